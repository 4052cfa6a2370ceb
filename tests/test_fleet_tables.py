"""Points 27 and 28: states of fleets, fleet tables, and what they show."""

import random
import unittest

from skypasses.best import table_of
from skypasses.fleets import fleet_plan, fleet_table, fleet_worth, is_fleet_table, shows_fleet_best

from tests.helpers import EXAMPLE, all_states, chance_fleet, keeps, make_sky, naive_ways
from tests.test_fleets import FLEET, ONE, OTHER, every_fleet_plan, large_fleet

BEGINNING = (0, -1, 0, ())
TABLE = [
    (0, -1, 0, (), 12),
    (0, 0, 4, (0,), 0),
    (0, 1, 3, (1,), 5),
    (1, -1, 0, (), 5),
    (1, -1, 0, (0,), 0),
    (1, -1, 0, (1,), 5),
    (1, 0, 2, (0,), 0),
    (1, 0, 2, (0, 1), 0),
]


def naive_fleet_ways(fleet, state):
    """The ways to go on by point 27, as tuples of what is gained and the state behind."""
    name, last, store, taken = state
    ways = []
    for look, behind in naive_ways(fleet[name], (last, store, taken)):
        ways.append((fleet[0][1][fleet[name][0][look][0]], (name,) + behind))
    if name + 1 < len(fleet):
        ways.append((0, (name + 1, -1, 0, taken)))
    return ways


def naive_fleet_rests(fleet):
    """The reached states with their rests, by going all ways."""
    rests = {}

    def rest(state):
        if state not in rests:
            rests[state] = max([gain + rest(behind) for gain, behind in naive_fleet_ways(fleet, state)], default=0)
        return rests[state]

    rest(BEGINNING)
    return rests


def naive_fleet_rest(fleet, state):
    return max([gain + naive_fleet_rest(fleet, to) for gain, to in naive_fleet_ways(fleet, state)], default=0)


def every_fleet_state(fleet):
    return [(name, *state) for name, sky in enumerate(fleet) for state in all_states(sky)]


def naive_is_fleet_table(fleet, table):
    """Goes by the words of point 28."""
    states = [row[:4] for row in table]
    bounds = {row[:4]: row[4] for row in table}
    wanted = {state: True for state in every_fleet_state(fleet)}
    if any(state not in wanted for state in states) or any(bound < 0 for bound in bounds.values()):
        return False
    if any(a >= b for a, b in zip(states, states[1:])) or BEGINNING not in bounds:
        return False
    for state in states:
        for gain, behind in naive_fleet_ways(fleet, state):
            if behind not in bounds or bounds[state] < gain + bounds[behind]:
                return False
    return True


def spoiled(fleet, table, chance):
    """A copy of the fleet table that differs from it at one place."""
    rows = list(table)
    at = chance.randrange(len(rows))
    name, last, store, taken, bound = rows[at]
    kind = chance.randrange(8)
    if kind < 3:
        rows[at] = (name, last, store, taken, bound + chance.choice([-1, 1, 2, -bound - 1]))
    elif kind == 3:
        del rows[at]
    elif kind == 4:
        rows.insert(at, rows[at])
    elif kind == 5:
        rows[at] = (name + chance.choice([-1, 1]), last, store, taken, bound)
    elif kind == 6:
        rows[at] = (name, last, store + chance.choice([-1, 1]), taken, bound)
    else:
        rows = sorted(rows + [(*chance.choice(every_fleet_state(fleet)), chance.randint(0, 20))])
    return rows


class FleetTable(unittest.TestCase):
    def test_of_the_example(self):
        self.assertEqual(fleet_table(FLEET), TABLE)
        self.assertIs(shows_fleet_best(FLEET, [[1], [0]], TABLE), True)

    def test_fleets_without_looks(self):
        self.assertEqual(fleet_table([make_sky()]), [(0, -1, 0, (), 0)])
        self.assertEqual(fleet_table([make_sky()] * 3), [(name, -1, 0, (), 0) for name in range(3)])

    def test_a_fleet_of_one_sky_has_the_table_of_the_sky(self):
        self.assertEqual(fleet_table([EXAMPLE]), [(0, *row) for row in table_of(EXAMPLE)])

    def test_reached_states_with_their_rests(self):
        for seed in range(100):
            fleet = chance_fleet(seed)
            told = sorted((*state, rest) for state, rest in naive_fleet_rests(fleet).items())
            self.assertEqual(fleet_table(fleet), told)
            self.assertIs(is_fleet_table(fleet, told), True)

    def test_large_fleets(self):
        for sizes in [(8, 6, 5), (16, 16, 16)]:
            fleet = large_fleet(sizes)
            table = fleet_table(fleet)
            self.assertGreater(len(table), 500)
            self.assertEqual(table[0], (*BEGINNING, fleet_worth(fleet)))
            self.assertIs(is_fleet_table(fleet, table), True)
            self.assertIs(shows_fleet_best(fleet, fleet_plan(fleet), table), True)
            for at in range(0, len(table), len(table) // 5):
                self.assertIs(is_fleet_table(fleet, table[:at] + table[at + 1:]), False)


class RightTables(unittest.TestCase):
    def right(self, table, fleet=FLEET):
        self.assertIs(is_fleet_table(fleet, table), True, table)

    def wrong(self, table, fleet=FLEET):
        self.assertIs(is_fleet_table(fleet, table), False, table)

    def test_the_beginning_must_be_there(self):
        self.wrong([])
        self.wrong(TABLE[1:])
        self.wrong([], [make_sky()])
        self.right([(0, -1, 0, (), 0)], [make_sky()])
        self.wrong([(0, -1, 1, (), 0)], [make_sky()])

    def test_the_next_sky_must_be_there(self):
        fleet = [make_sky()] * 3
        rows = [(name, -1, 0, (), 0) for name in range(3)]
        self.right(rows, fleet)
        self.wrong(rows[:1], fleet)
        self.wrong(rows[:2], fleet)
        self.wrong([rows[0], rows[2]], fleet)
        self.wrong(rows + [(3, -1, 0, (), 0)], fleet)

    def test_the_bound_of_the_next_sky_counts(self):
        fleet = [make_sky()] * 3
        for bounds, told in [((2, 2, 2), True), ((3, 2, 1), True), ((1, 2, 0), False), ((2, 1, 2), False)]:
            rows = [(name, -1, 0, (), bound) for name, bound in enumerate(bounds)]
            self.assertIs(is_fleet_table(fleet, rows), told)

    def test_any_bounds_that_are_enough(self):
        self.right([(*BEGINNING, 13)] + TABLE[1:])
        self.right([(*BEGINNING, 10 ** 30)] + TABLE[1:])
        greater = [(*row[:4], 8) if row[3] == (1,) else row for row in TABLE]
        self.right([(*BEGINNING, 15)] + greater[1:])
        self.wrong([(*BEGINNING, 14)] + greater[1:])

    def test_a_bound_made_less(self):
        for at in (0, 2, 3, 5):
            self.wrong(TABLE[:at] + [(*TABLE[at][:4], TABLE[at][4] - 1)] + TABLE[at + 1:])
        for at in range(len(TABLE)):
            self.wrong(TABLE[:at] + [(*TABLE[at][:4], -1)] + TABLE[at + 1:])

    def test_rows_left_out_twice_and_out_of_order(self):
        for at in range(len(TABLE)):
            self.wrong(TABLE[:at] + TABLE[at + 1:])
            self.wrong(TABLE[:at] + [TABLE[at]] + TABLE[at:])
            self.wrong(TABLE[:at + 1] + [(*TABLE[at][:4], 99)] + TABLE[at + 1:])
        for at in range(1, len(TABLE)):
            self.wrong(TABLE[:at - 1] + [TABLE[at], TABLE[at - 1]] + TABLE[at + 1:])
        self.wrong(TABLE[::-1])

    def test_parts_that_are_no_state(self):
        parts = [
            (-1, -1, 0, ()), (2, -1, 0, ()), (10 ** 20, -1, 0, ()), (-10 ** 20, -1, 0, ()),
            (0, 2, 0, ()), (1, 1, 0, ()), (1, -2, 0, ()), (1, 0, 4, (0, 1)), (0, 1, 7, (0, 1)), (1, 0, -1, (0, 1)),
            (1, 0, 3, (2,)), (1, 0, 3, (-1,)), (1, 0, 3, (1, 0)), (1, 0, 3, (1, 1)), (1, 0, 3, (0, 1, 2)),
        ]
        for part in parts:
            self.wrong(sorted(TABLE + [(*part, 0)]))

    def test_states_of_the_fleet_that_are_not_reached(self):
        self.right(TABLE + [(1, 0, 3, (0, 1), 4)])
        self.right(TABLE + [(1, 0, 3, (1,), 0)])
        self.right(sorted(TABLE + [(0, 1, 6, (1,), 5)]))
        self.wrong(sorted(TABLE + [(0, 1, 6, (1,), 4)]))
        # The store may be as full as the capacity of its own sky, not more.
        self.wrong(sorted(TABLE + [(1, -1, 4, (1,), 5)]))
        self.right(sorted(TABLE + [(1, -1, 3, (1,), 5)]))

    def test_every_state_at_once(self):
        rows = [(*state, naive_fleet_rest(FLEET, state)) for state in every_fleet_state(FLEET)]
        self.right(rows)
        for at, row in enumerate(rows):
            if row[4]:
                self.wrong(rows[:at] + [(*row[:4], row[4] - 1)] + rows[at + 1:])

    def test_every_state_of_a_large_fleet(self):
        fleet = large_fleet((8, 6, 5))
        rows = [(*state, 100 * (6 - len(state[3]))) for state in every_fleet_state(fleet)]
        self.assertEqual(len(rows), (9 + 7 + 6) * 31 * 64)
        self.right(rows, fleet)
        self.wrong(rows[:-1] + [(*rows[-1][:4], -1)], fleet)

    def test_tables_by_chance(self):
        found = {True: 0, False: 0}
        for seed in range(100):
            chance = random.Random(seed)
            fleet = [
                ([(*look[:4], 1 + look[4] % 4) for look in sky[0][:3]], sky[1], sky[2], 6, sky[4])
                for sky in chance_fleet(seed)
            ]
            table = fleet_table(fleet)
            for _ in range(12):
                told = spoiled(fleet, table, chance)
                right = naive_is_fleet_table(fleet, told)
                self.assertIs(is_fleet_table(fleet, told), right, (fleet, told))
                found[right] += 1
                if right:
                    # Point 28: whoever made the table, no fleet plan has a worth above the bound of the beginning.
                    self.assertTrue(all(row[4] >= naive_fleet_rest(fleet, row[:4]) for row in told))
                    self.assertTrue(all(worth <= told[0][4] for _, worth in every_fleet_plan(fleet)))
                    table = told
        self.assertGreater(min(found.values()), 150)


class Shows(unittest.TestCase):
    def test_all_best_fleet_plans_and_no_other_ones(self):
        for seed in range(60):
            fleet = chance_fleet(seed)
            table = fleet_table(fleet)
            plans = every_fleet_plan(fleet)
            greatest = max(worth for _, worth in plans)
            for told, worth in plans[::3]:
                self.assertIs(shows_fleet_best(fleet, told, table), worth == greatest)

    def test_lists_that_are_no_fleet_plan(self):
        self.assertIs(shows_fleet_best(FLEET, [[0, 1], []], TABLE), False)
        self.assertIs(shows_fleet_best(FLEET, [[1, 0], []], TABLE), False)
        self.assertIs(shows_fleet_best(FLEET, [[0], [0]], TABLE), False)
        self.assertIs(shows_fleet_best(FLEET, [[0], [0]], [(*BEGINNING, 10)] + TABLE[1:]), False)
        self.assertIs(shows_fleet_best(FLEET, [[1], [0, 0]], TABLE), False)
        # Two looks for the same wish, together as worth as the best fleet plan.
        looks = [(0, 0, 1, 0, 1), (1, 5, 1, 0, 1)]
        fleet = [make_sky(looks[:1], [4, 4]), make_sky(looks, [4, 4])]
        self.assertIs(shows_fleet_best(fleet, [[0], [0]], fleet_table(fleet)), False)
        self.assertIs(shows_fleet_best(fleet, [[0], [1]], fleet_table(fleet)), True)

    def test_tables_that_are_not_right_or_too_great(self):
        self.assertIs(shows_fleet_best(FLEET, [[1], [0]], []), False)
        self.assertIs(shows_fleet_best(FLEET, [[1], [0]], TABLE[:-1]), False)
        self.assertIs(shows_fleet_best(FLEET, [[1], [0]], TABLE[::-1]), False)
        self.assertIs(shows_fleet_best(FLEET, [[1], [0]], [(*BEGINNING, 13)] + TABLE[1:]), False)
        self.assertIs(shows_fleet_best(FLEET, [[1], []], [(*BEGINNING, 7)] + TABLE[1:]), False)
        self.assertIs(shows_fleet_best(FLEET, [[1], []], [(*BEGINNING, 7)]), False)
        self.assertIs(shows_fleet_best(FLEET, [[1], []], TABLE), False)

    def test_tables_of_the_skies_in_another_order_show_nothing(self):
        turned = fleet_table([OTHER, ONE])
        self.assertIs(is_fleet_table([OTHER, ONE], turned), True)
        self.assertIs(is_fleet_table(FLEET, turned), False)

    def test_fleets_without_looks(self):
        self.assertIs(shows_fleet_best([make_sky()], [[]], [(*BEGINNING, 0)]), True)
        self.assertIs(shows_fleet_best([make_sky()], [[]], [(*BEGINNING, 1)]), False)


class Arguments(unittest.TestCase):
    def test_nothing_is_changed_and_lists_are_new(self):
        keeps(self, fleet_table, FLEET)
        keeps(self, is_fleet_table, FLEET, list(TABLE))
        keeps(self, is_fleet_table, FLEET, TABLE[::-1])
        keeps(self, shows_fleet_best, FLEET, [[1], [0]], list(TABLE))
        keeps(self, shows_fleet_best, FLEET, [[0], [0]], list(TABLE))

    def test_kinds_of_what_is_told(self):
        self.assertIs(type(fleet_table(FLEET)), list)
        for row in fleet_table(FLEET):
            self.assertIs(type(row), tuple)
            self.assertEqual([type(part) for part in row], [int, int, int, tuple, int])


if __name__ == "__main__":
    unittest.main()

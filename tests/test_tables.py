"""Points 23 and 24: tables, and what they show."""

import random
import unittest

from skypasses.best import best_plan, best_plans, best_worth, count_best, is_table, shows_best, table_of
from skypasses.skies import worth_of

from tests.helpers import (
    EXAMPLE, all_states, chance_sky, every_plan, keeps, large_sky, make_sky, naive_reached, naive_rest, naive_ways,
    naive_worth, small_worths,
)

BEGINNING = (-1, 0, ())
TABLE = [(-1, 0, (), 12), (0, 4, (0,), 0), (1, 3, (1,), 5), (2, 2, (0,), 0), (2, 5, (0, 1), 0)]


def naive_is_table(sky, table):
    """Goes by the words of point 23, with the states and the looks told tick by tick."""
    states = [row[:3] for row in table]
    bounds = {row[:3]: row[3] for row in table}
    wanted = {state: True for state in all_states(sky)}
    if any(state not in wanted for state in states) or any(bound < 0 for bound in bounds.values()):
        return False
    if any(a >= b for a, b in zip(states, states[1:])) or BEGINNING not in bounds:
        return False
    for state in states:
        for look, behind in naive_ways(sky, state):
            if behind not in bounds or bounds[state] < sky[1][sky[0][look][0]] + bounds[behind]:
                return False
    return True


def spoiled(table, chance, sky):
    """A copy of the table that differs from it at one place."""
    rows = list(table)
    at = chance.randrange(len(rows))
    last, store, taken, bound = rows[at]
    kind = chance.randrange(8)
    if kind < 2:
        rows[at] = (last, store, taken, bound + chance.choice([-1, 1, 2, -bound - 1]))
    elif kind == 2:
        del rows[at]
    elif kind == 3:
        rows.insert(at, rows[at])
    elif kind == 4:
        other = chance.randrange(len(rows))
        rows[at], rows[other] = rows[other], rows[at]
    elif kind == 5:
        rows[at] = (last + chance.choice([-1, 1]), store, taken, bound)
    elif kind == 6:
        rows[at] = (last, store + chance.choice([-1, 1, sky[3]]), taken, bound)
    else:
        rows = sorted(rows + [(*chance.choice(all_states(sky)), chance.randint(0, 300))])
    return rows


class Example(unittest.TestCase):
    def test_examples_of_the_document(self):
        self.assertEqual(table_of(EXAMPLE), TABLE)
        self.assertIs(shows_best(EXAMPLE, [1, 2], table_of(EXAMPLE)), True)
        self.assertIs(shows_best(EXAMPLE, [1], table_of(EXAMPLE)), False)


class TableOf(unittest.TestCase):
    def test_a_sky_without_looks(self):
        self.assertEqual(table_of(make_sky()), [(-1, 0, (), 0)])

    def test_reached_states_with_their_rests(self):
        for seed in range(80):
            sky = small_worths(chance_sky(seed), seed) if seed % 2 else chance_sky(seed)
            told = [(*state, naive_rest(sky, state)) for state in naive_reached(sky)]
            self.assertEqual(table_of(sky), told)
            self.assertIs(is_table(sky, told), True)

    def test_two_plans_with_the_same_state_behind_them_have_one_tuple(self):
        sky = make_sky([(0, 0, 1, 0, 1), (0, 5, 1, 0, 1), (1, 10, 1, 0, 1)])
        self.assertEqual(
            table_of(sky),
            [(-1, 0, (), 12), (0, 1, (0,), 7), (1, 1, (0,), 7), (2, 1, (1,), 0), (2, 2, (0, 1), 0)],
        )

    def test_the_greatest_size(self):
        sky = large_sky(2)
        table = table_of(sky)
        self.assertGreater(len(table), 500)
        self.assertIs(is_table(sky, table), True)
        self.assertIs(shows_best(sky, best_plan(sky), table), True)
        for at in range(0, len(table), 97):
            self.assertIs(is_table(sky, table[:at] + table[at + 1:]), False)


class RightTables(unittest.TestCase):
    def right(self, table, sky=EXAMPLE):
        self.assertIs(is_table(sky, table), True, table)

    def wrong(self, table, sky=EXAMPLE):
        self.assertIs(is_table(sky, table), False, table)

    def test_the_beginning_must_be_there(self):
        self.wrong([])
        self.wrong(TABLE[1:])
        self.wrong([], make_sky())
        self.right([(-1, 0, (), 0)], make_sky())
        self.wrong([(-1, 1, (), 0)], make_sky())
        self.wrong([(-1, 0, (0,), 0)], make_sky())

    def test_any_bounds_that_are_enough(self):
        self.right([(-1, 0, (), 13)] + TABLE[1:])
        self.right([(-1, 0, (), 10 ** 30)] + TABLE[1:])
        self.right([(-1, 0, (), 17), (0, 4, (0,), 3), (1, 3, (1,), 9), (2, 2, (0,), 1), (2, 5, (0, 1), 4)])

    def test_a_bound_made_less(self):
        for at in (0, 2):
            last, store, taken, bound = TABLE[at]
            self.wrong(TABLE[:at] + [(last, store, taken, bound - 1)] + TABLE[at + 1:])
            self.wrong(TABLE[:at] + [(last, store, taken, 0)] + TABLE[at + 1:])

    def test_a_bound_made_greater_ahead_of_which_nothing_is_changed(self):
        self.wrong(TABLE[:2] + [(1, 3, (1,), 6)] + TABLE[3:])
        self.wrong(TABLE[:4] + [(2, 5, (0, 1), 1)])
        self.right(TABLE[:1] + [(0, 4, (0,), 7)] + TABLE[2:])
        self.wrong(TABLE[:1] + [(0, 4, (0,), 8)] + TABLE[2:])

    def test_bounds_below_0(self):
        for at, (last, store, taken, _) in enumerate(TABLE):
            for bound in (-1, -10 ** 9):
                self.wrong(TABLE[:at] + [(last, store, taken, bound)] + TABLE[at + 1:])
        self.wrong([(-1, 0, (), -1)], make_sky())

    def test_rows_left_out_twice_and_out_of_order(self):
        for at in range(len(TABLE)):
            self.wrong(TABLE[:at] + TABLE[at + 1:])
            self.wrong(TABLE[:at] + [TABLE[at]] + TABLE[at:])
            self.wrong(TABLE[:at] + [(*TABLE[at][:3], 99)] + TABLE[at:])
            self.wrong(TABLE[:at + 1] + [(*TABLE[at][:3], 99)] + TABLE[at + 1:])
        for at in range(1, len(TABLE)):
            self.wrong(TABLE[:at - 1] + [TABLE[at], TABLE[at - 1]] + TABLE[at + 1:])
        self.wrong(TABLE[::-1])

    def test_states_that_are_not_reached_count_as_others_do(self):
        # Behind (0, 4, ()) the look 2 can come, for the wish 0, with the state (2, 4, (0,)) behind it.
        self.wrong(TABLE[:1] + [(0, 4, (), 5)] + TABLE[1:])
        self.right(TABLE[:1] + [(0, 4, (), 5)] + TABLE[1:4] + [(2, 4, (0,), 0)] + TABLE[4:])
        self.wrong(TABLE[:1] + [(0, 4, (), 4)] + TABLE[1:4] + [(2, 4, (0,), 0)] + TABLE[4:])
        self.wrong(TABLE[:1] + [(0, 4, (), 5)] + TABLE[1:4] + [(2, 4, (0,), 1)] + TABLE[4:])
        self.right(TABLE + [(2, 6, (0, 1), 0)])
        self.right(TABLE + [(2, 6, (1,), 3)])
        self.wrong([(-1, 0, (), 12), (-1, 0, (1,), 0)] + TABLE[1:])
        self.right([(-1, 0, (), 12), (-1, 0, (0, 1), 0)] + TABLE[1:])

    def test_parts_that_are_no_state(self):
        for part in [(3, 0, ()), (10 ** 20, 0, ()), (2, 7, (0, 1)), (2, 10 ** 20, (1,)), (2, 6, (2,)), (2, 6, (0, 2))]:
            self.wrong(sorted(TABLE + [(*part, 0)]))
        for taken in [(1, 0), (1, 1), (0, 0), (-1,), (-1, 0), (5,), (0, 1, 2), (0, 1, 1), (10 ** 20,)]:
            self.wrong(sorted(TABLE + [(2, 6, taken, 0)]))
        for part in [(-2, 0, ()), (-1, -1, ()), (-10 ** 20, 0, ()), (0, -1, (0,)), (2, -1, (0, 1))]:
            self.wrong(sorted(TABLE + [(*part, 0)]))

    def test_bounds_of_the_parts(self):
        # The least and the greatest parts that are a state.
        rows = [(-1, 6, (0, 1), 0), (2, 0, (), 0), (2, 6, (0, 1), 7), (2, 6, (), 0), (2, 6, (1,), 0)]
        self.right(sorted(TABLE + rows))

    def test_every_state_at_once(self):
        sky = EXAMPLE
        rows = [(*state, naive_rest(sky, state)) for state in all_states(sky)]
        self.right(rows)
        for at, row in enumerate(rows):
            if row[3]:
                self.wrong(rows[:at] + [(*row[:3], row[3] - 1)] + rows[at + 1:])

    def test_every_state_of_the_greatest_sky(self):
        sky = large_sky(3)
        states = all_states(sky)
        self.assertEqual(len(states), 17 * 31 * 64)
        # A bound that falls by more than any worth with each wish that is taken is enough for every look.
        rows = [(*state, 100 * (6 - len(state[2]))) for state in states]
        self.right(rows, sky)
        self.wrong(rows[:-1] + [(*states[-1], -1)], sky)
        self.wrong([(*rows[0][:3], 100)] + rows[1:], sky)

    def test_tables_by_chance(self):
        found = {True: 0, False: 0}
        for seed in range(150):
            chance = random.Random(seed)
            sky = small_worths(chance_sky(seed), seed)
            sky = (sky[0][:5], sky[1][:3], sky[2], 6, sky[4])
            sky = ([(look[0] % len(sky[1]), *look[1:4], 1 + look[4] % 4) for look in sky[0]], *sky[1:])
            table = table_of(sky)
            for _ in range(12):
                told = spoiled(table, chance, sky)
                right = naive_is_table(sky, told)
                self.assertIs(is_table(sky, told), right, (sky, told))
                found[right] += 1
                if right:
                    # Point 24: whoever made the table, each bound is at least the rest.
                    self.assertTrue(all(row[3] >= naive_rest(sky, row[:3]) for row in told))
                    table = told
        self.assertGreater(min(found.values()), 200)


class Shows(unittest.TestCase):
    def test_all_best_plans_and_no_other_ones(self):
        for seed in range(60):
            sky = small_worths(chance_sky(seed), seed) if seed % 2 else chance_sky(seed)
            table = table_of(sky)
            greatest = max(naive_worth(sky, plan) for plan in every_plan(sky))
            for plan in every_plan(sky):
                self.assertIs(shows_best(sky, plan, table), naive_worth(sky, plan) == greatest)

    def test_lists_that_are_no_plan(self):
        # Each has the greatest worth, or more.
        for names in ([0, 1], [2, 1], [1, 2, 2], [0, 1, 2], [1, 2, 1]):
            self.assertEqual(worth_of(EXAMPLE, names), 12)
            self.assertIs(shows_best(EXAMPLE, names, TABLE), False)
            self.assertIs(shows_best(EXAMPLE, names, []), False)

    def test_tables_that_are_not_right(self):
        self.assertIs(shows_best(EXAMPLE, [1, 2], []), False)
        self.assertIs(shows_best(EXAMPLE, [1, 2], TABLE[:-1]), False)
        self.assertIs(shows_best(EXAMPLE, [1, 2], TABLE[::-1]), False)
        # A table that is made so as to show a plan that is no best one.
        self.assertIs(shows_best(EXAMPLE, [1], [(-1, 0, (), 7)]), False)
        self.assertIs(shows_best(EXAMPLE, [1], [(-1, 0, (), 7)] + TABLE[1:]), False)

    def test_right_tables_whose_bound_is_too_great(self):
        for bound in (13, 100):
            table = [(-1, 0, (), bound)] + TABLE[1:]
            self.assertIs(is_table(EXAMPLE, table), True)
            self.assertIs(shows_best(EXAMPLE, [1, 2], table), False)

    def test_other_bounds_may_be_too_great(self):
        self.assertIs(shows_best(EXAMPLE, [1, 2], TABLE[:1] + [(0, 4, (0,), 7)] + TABLE[2:]), True)

    def test_a_sky_without_looks(self):
        self.assertIs(shows_best(make_sky(), [], [(-1, 0, (), 0)]), True)
        self.assertIs(shows_best(make_sky(), [], [(-1, 0, (), 1)]), False)
        self.assertIs(shows_best(make_sky(), [], []), False)

    def test_each_of_several_best_plans(self):
        sky = make_sky([(k % 3, 10 * k, 1, 0, 1) for k in range(9)], [1, 0, 2])
        self.assertEqual((best_worth(sky), count_best(sky)), (3, 36))
        for plan in best_plans(sky, most=100):
            self.assertIs(shows_best(sky, plan, table_of(sky)), True)


class Arguments(unittest.TestCase):
    def test_nothing_is_changed_and_lists_are_new(self):
        keeps(self, table_of, EXAMPLE)
        keeps(self, is_table, EXAMPLE, list(TABLE))
        keeps(self, is_table, EXAMPLE, TABLE[::-1])
        keeps(self, shows_best, EXAMPLE, [1, 2], list(TABLE))
        keeps(self, shows_best, EXAMPLE, [2, 1], list(TABLE))

    def test_kinds_of_what_is_told(self):
        self.assertIs(type(table_of(EXAMPLE)), list)
        for row in table_of(EXAMPLE):
            self.assertEqual([type(part) for part in row], [int, int, tuple, int])
            self.assertIs(type(row), tuple)


if __name__ == "__main__":
    unittest.main()

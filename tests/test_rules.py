"""Points 34 to 37: rules and what is taken by them, lists that are lower or upper, sure worths."""

import random
import unittest

from skypasses.best import best_worth
from skypasses.failing import (
    first_states, is_sure_lower, is_sure_upper, least_worth, moves_of, states_behind, sure_rule, sure_table,
    sure_worth, taken_by, worst_failing,
)

from tests.helpers import (
    chance_sky, every_failing, keeps, large_sky, make_sky, naive_taken, naive_worth, small_worths, without,
)

SKY = ([(0, 0, 2, 0, 4), (1, 5, 1, 0, 4)], [5, 7], [(3, 5, 1)], 6, 20)
FIRST = (0, -1, 0, (), ())
STATES = [FIRST, (1, -1, 0, (), ()), (1, -1, 0, (), (0,)), (1, 0, 2, (0,), ()), (1, 0, 4, (0,), (0,))]


def some_skies(seeds):
    for seed in seeds:
        sky = chance_sky(seed)
        yield seed, (small_worths(sky, seed) if seed % 2 else sky)


def chance_rule(sky, chance):
    """A rule with any moves, some states twice and some left out, in any order."""
    states = [state for state, _ in sure_table(sky, most=4)]
    told = [(chance.choice(states), chance.choice(["take", "take", "leave"])) for _ in range(2 * len(states))]
    return told if states else []


def numbers_of(rows):
    return [number for _, number in rows]


def naive_lower(sky, rows, most):
    """Goes by the words of point 36."""
    states = [state for state, _ in rows]
    if any(states.count(state) > 1 for state in states):
        return False
    if any(state not in states for state in first_states(sky, most=most)):
        return False
    told = dict(rows)
    for state, number in rows:
        good = []
        for move in moves_of(sky, state):
            gain = sky[1][sky[0][state[0]][0]] if move == "take" else 0
            after = states_behind(sky, state, move, most=most)
            if not after:
                good.append(gain >= number)
            else:
                good.append(all(behind in told and gain + told[behind] >= number for behind in after))
        if True not in good:
            return False
    return True


def naive_upper(sky, rows, most):
    states = [state for state, _ in rows]
    if any(states.count(state) > 1 for state in states):
        return False
    if sky[0] and not any(state in states for state in first_states(sky, most=most)):
        return False
    told = dict(rows)
    for state, number in rows:
        for move in moves_of(sky, state):
            gain = sky[1][sky[0][state[0]][0]] if move == "take" else 0
            after = states_behind(sky, state, move, most=most)
            if not after and gain > number:
                return False
            if after and not any(behind in told and gain + told[behind] <= number for behind in after):
                return False
    return True


def spoiled(rows, chance):
    """A list that differs from this one in some places."""
    rows = list(rows)
    for _ in range(chance.randint(1, 4)):
        at = chance.randrange(len(rows))
        kind = chance.randrange(4)
        if kind == 0 and len(rows) > 1:
            del rows[at]
        elif kind == 1 and chance.randrange(3) == 0:
            rows.insert(chance.randrange(len(rows)), rows[at])
        elif kind == 2:
            chance.shuffle(rows)
        else:
            state, number = rows[at]
            rows[at] = (state, number + chance.choice([-1, 1, -3, 3, -100, 100]))
    return rows


class TakenBy(unittest.TestCase):
    def test_the_rule_of_the_example(self):
        rule = sure_rule(SKY, most=1)
        self.assertEqual([taken_by(SKY, rule, failing) for failing in ((), (0,))], [[1], [1]])
        rule = [(state, "take") for state in STATES]
        self.assertEqual([taken_by(SKY, rule, failing) for failing in ((), (0,), [], [0])], [[0, 1], [0], [0, 1], [0]])
        self.assertEqual((least_worth(SKY, rule, most=0), least_worth(SKY, rule, most=1)), (12, 5))
        self.assertEqual((worst_failing(SKY, rule, most=0), worst_failing(SKY, rule, most=1)), ((), (0,)))

    def test_a_state_that_the_rule_does_not_have(self):
        self.assertEqual(taken_by(SKY, [], ()), [])
        self.assertEqual(taken_by(SKY, [(STATES[1], "take")], ()), [1])
        self.assertEqual(taken_by(SKY, [(STATES[1], "take")], (0,)), [])
        self.assertEqual(taken_by(SKY, [(STATES[3], "take")], ()), [])

    def test_the_first_tuple_counts(self):
        rule = [(FIRST, "take"), (FIRST, "leave"), (STATES[1], "leave"), (STATES[1], "take")]
        self.assertEqual(taken_by(SKY, rule, ()), [0])
        self.assertEqual(taken_by(SKY, rule[::-1], ()), [1])

    def test_a_look_that_may_not_be_taken_is_left(self):
        self.assertEqual(taken_by(SKY, [(FIRST, "take"), (STATES[4], "take")], (0,)), [0])

    def test_by_the_words(self):
        chance = random.Random(34)
        for seed, sky in some_skies(range(60)):
            for rule in (sure_rule(sky, most=1), chance_rule(sky, chance), chance_rule(sky, chance)):
                failings = every_failing(sky, 4)
                taken = [naive_taken(sky, rule, failing) for failing in failings]
                self.assertEqual([taken_by(sky, rule, failing) for failing in failings], taken)
                self.assertEqual([taken_by(sky, rule, list(failing)) for failing in failings], taken)
                worths = {failing: naive_worth(sky, names) for failing, names in zip(failings, taken)}
                for most in (0, 1, 2, 4):
                    told = every_failing(sky, most)
                    least = min(worths[failing] for failing in told)
                    self.assertEqual(least_worth(sky, rule, most=most), least)
                    first = [failing for failing in told if worths[failing] == least][0]
                    self.assertEqual(worst_failing(sky, rule, most=most), first)

    def test_the_first_of_the_worst_failings_in_the_order_of_tuples(self):
        looks = [(0, 0, 1, 0, 4), (1, 20, 1, 0, 4)]
        sky = make_sky(looks, ears=[(2, 4, 1), (5, 7, 1), (8, 9, 1)])
        every = [(0, -1, 0, (), ())] + [(1, 0, amount, (0,), failed) for amount in range(5)
                                        for failed in every_failing(sky, 4)]
        rule = [(state, "take") for state in every]
        worths = [naive_worth(sky, taken_by(sky, rule, failing)) for failing in every_failing(sky, 4)]
        self.assertEqual(every_failing(sky, 4), [(), (0,), (0, 1), (0, 1, 2), (0, 2), (1,), (1, 2), (2,)])
        self.assertEqual(worths, [12, 12, 5, 5, 12, 12, 12, 12])
        self.assertEqual([worst_failing(sky, rule, most=most) for most in range(4)], [(), (), (0, 1), (0, 1)])
        sky = make_sky(looks, ears=[(2, 3, 1), (5, 7, 1), (8, 10, 1)])
        self.assertEqual(worst_failing(sky, rule, most=1), ())
        self.assertEqual(worst_failing(sky, rule, most=2), (1, 2))
        self.assertEqual(worst_failing(sky, rule, most=3), (0, 1, 2))

    def test_a_sky_without_looks_and_one_without_ears(self):
        for sky in (make_sky(), make_sky(ears=[(0, 3, 1), (3, 9, 1)])):
            for most in (0, 1, 4):
                self.assertEqual(least_worth(sky, [], most=most), 0)
                self.assertEqual(worst_failing(sky, [], most=most), ())
            self.assertEqual(taken_by(sky, [], ()), [])
        sky = make_sky([(0, 0, 1, 0, 4)])
        self.assertEqual(taken_by(sky, [(FIRST, "take")], ()), [0])
        self.assertEqual(least_worth(sky, [(FIRST, "take")], most=4), 5)


class SureWorth(unittest.TestCase):
    def test_the_sure_rule_reaches_the_sure_worth_and_no_rule_reaches_more(self):
        chance = random.Random(35)
        for seed, sky in some_skies(range(100)):
            for most in range(5):
                worth = sure_worth(sky, most=most)
                self.assertEqual(least_worth(sky, sure_rule(sky, most=most), most=most), worth)
                for _ in range(3):
                    self.assertLessEqual(least_worth(sky, chance_rule(sky, chance), most=most), worth)

    def test_bounds_of_the_sure_worth(self):
        for seed, sky in some_skies(range(150)):
            worths = [sure_worth(sky, most=most) for most in range(5)]
            self.assertEqual(worths[0], best_worth(sky))
            self.assertEqual(worths, sorted(worths, reverse=True))
            for most in range(5):
                ahead = [best_worth(without(sky, failing)) for failing in every_failing(sky, most)]
                self.assertLessEqual(worths[most], min(ahead))
                if most >= len(sky[2]):
                    self.assertEqual(worths[most], worths[len(sky[2])])


class LowerAndUpper(unittest.TestCase):
    ROWS = list(zip(STATES, [7, 7, 7, 7, 0]))

    def told(self, rows, sky=SKY, most=1):
        return is_sure_lower(sky, rows, most=most), is_sure_upper(sky, rows, most=most)

    def test_the_table_of_the_example_is_both(self):
        self.assertEqual(sure_table(SKY, most=1), self.ROWS)
        self.assertEqual(self.told(self.ROWS), (True, True))
        self.assertEqual(self.told(self.ROWS[::-1]), (True, True))

    def test_results_are_true_and_false_themselves(self):
        for rows in (self.ROWS, self.ROWS[1:], self.ROWS + self.ROWS, []):
            for told in self.told(rows):
                self.assertIsInstance(told, bool)

    def test_numbers_greater_and_less_by_one(self):
        for at, (state, number) in enumerate(self.ROWS):
            greater = self.ROWS[:at] + [(state, number + 1)] + self.ROWS[at + 1:]
            less = self.ROWS[:at] + [(state, number - 1)] + self.ROWS[at + 1:]
            # More at a state is no longer reached; what hangs on it could only be more, and need not be.
            self.assertIs(is_sure_lower(SKY, greater, most=1), False)
            self.assertIs(is_sure_upper(SKY, less, most=1), False)
        self.assertEqual(self.told([(FIRST, 6)] + self.ROWS[1:]), (True, False))
        self.assertEqual(self.told([(FIRST, 8)] + self.ROWS[1:]), (False, True))

    def test_a_move_that_is_enough_for_lower_and_not_for_upper(self):
        # Leaving reaches 7 at most, and taking surely 5.
        self.assertEqual(self.told([(FIRST, 5)] + self.ROWS[1:]), (True, False))
        self.assertEqual(self.told([(FIRST, 5), self.ROWS[3], self.ROWS[4]]), (True, False))
        self.assertEqual(self.told([(FIRST, 6), self.ROWS[3], self.ROWS[4]]), (False, False))
        self.assertEqual(self.told([(FIRST, 7), self.ROWS[1], self.ROWS[2]]), (True, False))
        # For lower all states behind a move are needed, for upper one of them for each move.
        self.assertEqual(self.told([self.ROWS[0], self.ROWS[1]]), (False, False))
        self.assertEqual(self.told([self.ROWS[0], self.ROWS[1], self.ROWS[4]]), (False, True))
        self.assertEqual(self.told([self.ROWS[0], self.ROWS[2], self.ROWS[4]]), (False, True))
        self.assertEqual(self.told([self.ROWS[0], self.ROWS[2], self.ROWS[3]]), (False, False))
        self.assertEqual(self.told([(FIRST, 12), self.ROWS[2], self.ROWS[3]]), (False, True))

    def test_a_state_twice(self):
        for row in self.ROWS:
            self.assertEqual(self.told(self.ROWS + [row]), (False, False))
        self.assertEqual(self.told(self.ROWS + [(FIRST, 6)]), (False, False))
        self.assertEqual(self.told([(FIRST, 8)] + self.ROWS), (False, False))

    def test_first_states(self):
        sky = make_sky([(0, 5, 1, 0, 1)], ears=[(0, 3, 1)])
        rows = [((0, -1, 0, (), ()), 5), ((0, -1, 0, (), (0,)), 5)]
        self.assertEqual(self.told(rows, sky), (True, True))
        # All first states are needed for lower, and one of them for upper.
        self.assertEqual(self.told(rows[:1], sky), (False, True))
        self.assertEqual(self.told(rows[1:], sky), (False, True))
        self.assertEqual(self.told([], sky), (False, False))
        self.assertEqual(self.told(rows[:1], sky, most=0), (True, True))
        self.assertEqual(self.told(self.ROWS[1:]), (False, False))

    def test_numbers_below_0_and_great_ones(self):
        low = [(state, -number - 1) for state, number in self.ROWS]
        high = [(state, number + 10 ** 9) for state, number in self.ROWS]
        self.assertEqual(self.told(low), (True, False))
        self.assertEqual(self.told(high[:-1] + [(STATES[4], 10 ** 9)]), (False, True))

    def test_a_sky_without_looks(self):
        for sky in (make_sky(), make_sky(ears=[(0, 4, 2)])):
            for most in (0, 1, 4):
                self.assertEqual(self.told([], sky, most=most), (True, True))

    def test_tables_are_both(self):
        for seed, sky in some_skies(range(60)):
            for most in (0, 1, 2, 4):
                self.assertEqual(self.told(sure_table(sky, most=most), sky, most), (True, True))

    def test_by_the_words_and_what_they_bound(self):
        chance = random.Random(36)
        counts = {}
        for seed, sky in some_skies(range(150)):
            sky = (sky[0][:5], *sky[1:])
            most = chance.choice([0, 1, 2, 4])
            rows = sure_table(sky, most=most)
            for _ in range(12 if rows else 0):
                tried = spoiled(rows, chance)
                told = self.told(tried, sky, most)
                self.assertEqual(told, (naive_lower(sky, tried, most), naive_upper(sky, tried, most)))
                counts[told] = counts.get(told, 0) + 1
                firsts = [number for state, number in tried if state in first_states(sky, most=most)]
                if told[0]:
                    self.assertGreaterEqual(sure_worth(sky, most=most), min(firsts))
                if told[1]:
                    self.assertLessEqual(sure_worth(sky, most=most), min(firsts))
        self.assertGreater(min(counts.get(told, 0) for told in [(True, False), (False, True), (False, False)]), 50)

    def test_the_greatest_size(self):
        sky = large_sky(6)
        rows = sure_table(sky, most=4)
        self.assertEqual(self.told(rows, sky, 4), (True, True))
        state, number = rows[0]
        self.assertEqual(self.told([(state, number + 1)] + rows[1:], sky, 4), (False, True))
        self.assertEqual(self.told([(state, number - 1)] + rows[1:], sky, 4), (True, False))


class Arguments(unittest.TestCase):
    def test_arguments_stay_and_results_are_new(self):
        for seed in (3, 8):
            sky = chance_sky(seed)
            rule = sure_rule(sky, most=2)
            rows = sure_table(sky, most=2)
            keeps(self, taken_by, sky, rule, [0])
            keeps(self, least_worth, sky, rule, most=2)
            keeps(self, worst_failing, sky, rule, most=2)
            keeps(self, is_sure_lower, sky, rows, most=2)
            keeps(self, is_sure_upper, sky, rows, most=2)


if __name__ == "__main__":
    unittest.main()

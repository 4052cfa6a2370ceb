"""Points 38 to 40: chances, mean worths, lists that are mean lower or mean upper."""

import random
import unittest
from fractions import Fraction

from skypasses.best import best_worth
from skypasses.chances import (
    chance_of, check_chances, is_mean_lower, is_mean_upper, mean_of, mean_table, mean_worth,
)
from skypasses.errors import BadNumber, BadSize
from skypasses.failing import first_states, gain_of, moves_of, states_behind, sure_rule, sure_worth

from tests.helpers import (
    chance_sky, every_failing, keeps, large_sky, make_sky, naive_may, naive_state, naive_taken, naive_worth,
    small_worths, without,
)

SKY = ([(0, 0, 2, 0, 4), (1, 5, 1, 0, 4)], [5, 7], [(3, 5, 1)], 6, 20)
FIRST = (0, -1, 0, (), ())
STATES = [FIRST, (1, -1, 0, (), ()), (1, -1, 0, (), (0,)), (1, 0, 2, (0,), ()), (1, 0, 4, (0,), (0,))]


def told(fraction):
    """A fraction in the form of the document."""
    return (fraction.numerator, fraction.denominator)


def chances_for(sky, chance):
    """Chances for the ears; 0 and 1 come up often."""
    found = []
    for _ in sky[2]:
        divisor = chance.randint(1, 100)
        part = Fraction(chance.choice([0, divisor, chance.randint(0, divisor), chance.randint(0, divisor)]), divisor)
        found.append(told(part))
    return found


def likely(chances, names, failing):
    """The chance that just these of the named ears fail."""
    product = Fraction(1)
    for name in names:
        part = Fraction(*chances[name])
        product *= part if name in failing else 1 - part
    return product


class Game:
    """Tells every course of looks taken and ears failed with a chance that is not 0, and the mean from it on."""

    def __init__(self, sky, chances):
        self.sky = sky
        self.chances = chances
        self.told = {}
        self.worth = self.mean_over(0, [], (), -1)[1] if sky[0] else Fraction(0)

    def mean_over(self, look, taken, failing, since):
        names = [name for name, ear in enumerate(self.sky[2]) if since < ear[0] <= self.sky[0][look][1]]
        total = Fraction(0)
        states = []
        for fate in every_failing(self.sky, 4):
            if set(fate) <= set(names) and likely(self.chances, names, fate):
                state, number = self.mean(look, taken, failing + fate)
                states.append(state)
                total += likely(self.chances, names, fate) * number
        return states, total

    def mean(self, look, taken, failing):
        state = naive_state(self.sky, look, taken, failing)
        numbers = [self.after(look, taken, failing)]
        if naive_may(self.sky, look, taken, failing):
            worth = self.sky[1][self.sky[0][look][0]]
            numbers.append(worth + self.after(look, taken + [look], failing))
        assert self.told.setdefault(state, max(numbers)) == max(numbers)
        return state, max(numbers)

    def after(self, look, taken, failing):
        if look + 1 == len(self.sky[0]):
            return Fraction(0)
        return self.mean_over(look + 1, taken, failing, self.sky[0][look][1])[1]


def some_skies(seeds):
    for seed in seeds:
        sky = chance_sky(seed)
        sky = (sky[0][:6], *sky[1:])
        yield seed, (small_worths(sky, seed) if seed % 2 else sky)


def mean_rule(sky, chances):
    """A rule that takes a look where this reaches the mean number; by the table alone."""
    numbers = {state: Fraction(*number) for state, number in mean_table(sky, chances)}
    rule = []
    for state in numbers:
        for move in reversed(moves_of(sky, state)):
            if way_mean(sky, chances, state, move, numbers) == numbers[state]:
                rule.append((state, move))
    return rule


def behind_with_chances(sky, chances, state, move):
    """The states behind the move with their chances, without those whose chance is 0."""
    found = []
    for behind in states_behind(sky, state, move, most=4):
        since, until = sky[0][state[0]][1], sky[0][behind[0]][1]
        names = [name for name, ear in enumerate(sky[2]) if since < ear[0] <= until]
        part = likely(chances, names, behind[4])
        if part:
            found.append((behind, part))
    return found


def firsts_with_chances(sky, chances):
    names = [name for name, ear in enumerate(sky[2]) if sky[0] and ear[0] <= sky[0][0][1]]
    rows = [(state, likely(chances, names, state[4])) for state in first_states(sky, most=4)]
    return [(state, part) for state, part in rows if part]


def way_mean(sky, chances, state, move, numbers):
    """The mean by the move, or None if the number of a state behind it is not told."""
    total = Fraction(gain_of(sky, state, move))
    for behind, part in behind_with_chances(sky, chances, state, move):
        if behind not in numbers:
            return None
        total += part * numbers[behind]
    return total


def naive_judged(sky, chances, rows):
    """Whether the list is mean lower and whether it is mean upper, by the words of point 39."""
    states = [state for state, _ in rows]
    if any(states.count(state) > 1 for state in states):
        return (False, False)
    if any(state not in states for state, _ in firsts_with_chances(sky, chances)):
        return (False, False)
    numbers = {state: Fraction(*number) for state, number in rows}
    lower = upper = True
    for state, number in numbers.items():
        means = [way_mean(sky, chances, state, move, numbers) for move in moves_of(sky, state)]
        lower = lower and any(mean is not None and mean >= number for mean in means)
        upper = upper and all(mean is not None and mean <= number for mean in means)
    return (lower, upper)


class CheckChances(unittest.TestCase):
    def sky(self, ears):
        return make_sky(ears=[(10 * k, 10 * k + 5, 1) for k in range(ears)])

    def test_chances_that_are_right(self):
        for chances in ([], [(0, 1)], [(1, 1)], [(1, 2)], [(1, 100), (99, 100), (97, 99), (0, 1)]):
            self.assertIsNone(check_chances(self.sky(len(chances)), chances))

    def test_too_few_and_too_many(self):
        for ears in range(5):
            for number in range(7):
                if number != ears:
                    for part in ((1, 2), (2, 4), ("a", None)):
                        with self.assertRaises(BadSize):
                            check_chances(self.sky(ears), [part] * number)

    def test_numbers_that_are_wrong(self):
        wrong = [
            (2, 4), (0, 2), (0, 100), (2, 2), (100, 100), (50, 100), (6, 9),
            (-1, 2), (-1, 1), (3, 2), (2, 1), (101, 100), (100, 99),
            (0, 0), (1, 0), (1, -1), (-1, -2), (0, -1), (-1, -1), (1, 101), (100, 101), (1, 1000),
            (True, 1), (1, True), (False, 1), (True, True), (1.0, 2), (1, 2.0), (0.5, 1), ("1", 2), (1, "2"),
            (None, 1), (1, None), ((1,), 2), ([], {}), (1, [2]), (10 ** 30, 10 ** 30 + 1), (float("nan"), 1),
        ]
        for part in wrong:
            for chances in ([part], [(1, 2), part], [part, (1, 2)], [(1, 2), part, (2, 4)], [(0, 1)] * 3 + [part]):
                with self.subTest(chances=chances):
                    with self.assertRaises(BadNumber):
                        check_chances(self.sky(len(chances)), chances)


class ChanceOf(unittest.TestCase):
    def test_products_in_lowest_terms(self):
        chances = [(1, 3), (0, 1), (1, 1), (3, 4)]
        self.assertEqual(chance_of(chances, (2,)), (1, 6))
        self.assertEqual(chance_of(chances, (0, 2, 3)), (1, 4))
        self.assertEqual(chance_of(chances, [2, 3]), (1, 2))
        self.assertEqual(chance_of(chances, ()), (0, 1))
        self.assertEqual(chance_of(chances, (0, 1, 2, 3)), (0, 1))
        self.assertEqual(chance_of([], ()), (1, 1))
        self.assertEqual(chance_of([(99, 100)] * 4, (0, 1, 2, 3)), (99 ** 4, 100 ** 4))

    def test_all_failings(self):
        chance = random.Random(38)
        for seed, sky in some_skies(range(60)):
            chances = chances_for(sky, chance)
            parts = {failing: likely(chances, range(len(chances)), failing) for failing in every_failing(sky, 4)}
            self.assertEqual(sum(parts.values()), 1)
            for failing, part in parts.items():
                self.assertEqual(chance_of(chances, failing), told(part))
                self.assertEqual(chance_of(chances, list(failing)), told(part))


class MeanWorth(unittest.TestCase):
    def test_examples_of_the_document(self):
        self.assertEqual(mean_worth(SKY, [(1, 3)]), (29, 3))
        self.assertEqual(
            mean_table(SKY, [(1, 3)]), list(zip(STATES, [(29, 3), (7, 1), (7, 1), (7, 1), (0, 1)]))
        )

    def test_chances_0_and_1(self):
        self.assertEqual(mean_worth(SKY, [(0, 1)]), (12, 1))
        self.assertEqual(mean_worth(SKY, [(1, 1)]), (7, 1))
        self.assertEqual(
            mean_table(SKY, [(0, 1)]), [(FIRST, (12, 1)), (STATES[1], (7, 1)), (STATES[3], (7, 1))]
        )
        self.assertEqual(
            mean_table(SKY, [(1, 1)]), [(FIRST, (7, 1)), (STATES[2], (7, 1)), (STATES[4], (0, 1))]
        )

    def test_first_states_with_chances(self):
        sky = make_sky([(0, 3, 1, 0, 2), (1, 9, 1, 0, 6)], ears=[(2, 6, 1)])
        states = [(0, -1, 0, (), ()), (0, -1, 0, (), (0,))]
        table = dict(mean_table(sky, [(2, 5)]))
        self.assertEqual([table[state] for state in states], [(12, 1), (7, 1)])
        self.assertEqual(mean_worth(sky, [(2, 5)]), (10, 1))
        self.assertNotIn(states[0], dict(mean_table(sky, [(1, 1)])))
        self.assertNotIn(states[1], dict(mean_table(sky, [(0, 1)])))

    def test_all_courses(self):
        chance = random.Random(39)
        for seed, sky in some_skies(range(90)):
            chances = chances_for(sky, chance)
            game = Game(sky, chances)
            self.assertEqual(mean_worth(sky, chances), told(game.worth))
            rows = [(state, told(number)) for state, number in sorted(game.told.items())]
            self.assertEqual(mean_table(sky, chances), rows)

    def test_a_sky_without_looks(self):
        self.assertEqual(mean_worth(make_sky(), []), (0, 1))
        self.assertEqual(mean_table(make_sky(), []), [])
        sky = make_sky(ears=[(0, 4, 1)])
        self.assertEqual(mean_worth(sky, [(1, 2)]), (0, 1))
        self.assertEqual(mean_table(sky, [(1, 2)]), [])
        self.assertEqual(mean_of(sky, [], [(1, 2)]), (0, 1))
        self.assertIs(is_mean_lower(sky, [(1, 2)], []), True)
        self.assertIs(is_mean_upper(sky, [(1, 2)], []), True)

    def test_a_sky_without_ears(self):
        for seed, sky in some_skies(range(40)):
            sky = without(sky, range(4))
            self.assertEqual(mean_worth(sky, []), (best_worth(sky), 1))

    def test_at_least_the_sure_worth_and_never_more_with_greater_chances(self):
        chance = random.Random(40)
        for seed, sky in some_skies(range(80)):
            chances = chances_for(sky, chance)
            self.assertGreaterEqual(Fraction(*mean_worth(sky, chances)), sure_worth(sky, most=len(sky[2])))
            for ear in range(len(sky[2])):
                worths = []
                for part in [(0, 1), (1, 4), (1, 2), (3, 4), (1, 1)]:
                    worths.append(Fraction(*mean_worth(sky, chances[:ear] + [part] + chances[ear + 1:])))
                self.assertEqual(worths, sorted(worths, reverse=True))
                for low, middle, high in ((0, 1, 2), (1, 2, 3), (2, 3, 4), (0, 2, 4)):
                    self.assertLessEqual(worths[middle], (worths[low] + worths[high]) / 2)

    def test_the_greatest_size(self):
        sky = large_sky(7)
        chances = [(1, 97), (99, 100), (1, 2), (7, 89)]
        rows = mean_table(sky, chances)
        self.assertIs(is_mean_lower(sky, chances, rows), True)
        self.assertIs(is_mean_upper(sky, chances, rows), True)
        self.assertGreaterEqual(Fraction(*mean_worth(sky, chances)), sure_worth(sky, most=4))


class MeanOf(unittest.TestCase):
    def test_rules_of_the_example(self):
        rule = [(state, "take") for state in STATES]
        self.assertEqual(mean_of(SKY, rule, [(1, 3)]), (29, 3))
        self.assertEqual(mean_of(SKY, rule, [(0, 1)]), (12, 1))
        self.assertEqual(mean_of(SKY, rule, [(1, 1)]), (5, 1))
        self.assertEqual(mean_of(SKY, [], [(1, 3)]), (0, 1))
        self.assertEqual(mean_of(SKY, [(FIRST, "leave"), (FIRST, "take"), (STATES[2], "take")], [(1, 3)]), (7, 3))

    def test_the_sum_over_all_failings(self):
        chance = random.Random(41)
        for seed, sky in some_skies(range(60)):
            chances = chances_for(sky, chance)
            states = [state for state, _ in sure_rule(sky, most=4)]
            rules = [
                sure_rule(sky, most=1),
                [(state, chance.choice(["take", "leave"])) for state in states + states],
                mean_rule(sky, chances),
            ]
            for rule in rules:
                total = Fraction(0)
                for failing in every_failing(sky, 4):
                    taken = naive_taken(sky, rule, failing)
                    total += likely(chances, range(len(chances)), failing) * naive_worth(sky, taken)
                self.assertEqual(mean_of(sky, rule, chances), told(total))
                self.assertLessEqual(total, Fraction(*mean_worth(sky, chances)))
            self.assertEqual(mean_of(sky, rules[-1], chances), mean_worth(sky, chances))


class LowerAndUpper(unittest.TestCase):
    CHANCES = [(1, 3)]
    ROWS = list(zip(STATES, [(29, 3), (7, 1), (7, 1), (7, 1), (0, 1)]))

    def judged(self, rows, sky=SKY, chances=None):
        chances = self.CHANCES if chances is None else chances
        return is_mean_lower(sky, chances, rows), is_mean_upper(sky, chances, rows)

    def test_the_table_of_the_example_is_both(self):
        self.assertEqual(self.judged(self.ROWS), (True, True))
        self.assertEqual(self.judged(self.ROWS[::-1]), (True, True))

    def test_results_are_true_and_false_themselves(self):
        for rows in (self.ROWS, self.ROWS[1:], self.ROWS + self.ROWS, []):
            for part in self.judged(rows):
                self.assertIsInstance(part, bool)

    def test_numbers_a_little_greater_and_less(self):
        for by in (Fraction(1), Fraction(1, 10 ** 12)):
            for at, (state, number) in enumerate(self.ROWS):
                greater = self.ROWS[:at] + [(state, told(Fraction(*number) + by))] + self.ROWS[at + 1:]
                less = self.ROWS[:at] + [(state, told(Fraction(*number) - by))] + self.ROWS[at + 1:]
                self.assertIs(self.judged(greater)[0], False)
                self.assertIs(self.judged(less)[1], False)
            number = Fraction(29, 3)
            self.assertEqual(self.judged([(FIRST, told(number + by))] + self.ROWS[1:]), (False, True))
            self.assertEqual(self.judged([(FIRST, told(number - by))] + self.ROWS[1:]), (True, False))

    def test_rows_left_out(self):
        self.assertEqual(self.judged([]), (False, False))
        self.assertEqual(self.judged(self.ROWS[1:]), (False, False))
        # What leaving needs is not needed for lower, since taking reaches the number.
        self.assertEqual(self.judged([self.ROWS[at] for at in (0, 3, 4)]), (True, False))
        self.assertEqual(self.judged([self.ROWS[at] for at in (0, 1, 3, 4)]), (True, False))
        self.assertEqual(self.judged([self.ROWS[at] for at in (0, 1, 2)]), (False, False))
        self.assertEqual(self.judged([(FIRST, (7, 1))] + self.ROWS[1:3]), (True, False))
        self.assertEqual(self.judged([self.ROWS[at] for at in (0, 1, 2, 4)]), (False, False))

    def test_states_whose_chance_is_0_need_not_be_there(self):
        for chances, ats in (([(0, 1)], (0, 1, 3)), ([(1, 1)], (0, 2, 4))):
            table = mean_table(SKY, chances)
            self.assertEqual([state for state, _ in table], [STATES[at] for at in ats])
            self.assertEqual(self.judged(table, chances=chances), (True, True))
            self.assertIs(is_mean_upper(SKY, chances, table[:-1]), False)
        sky = make_sky([(0, 5, 1, 0, 1)], ears=[(0, 3, 1)])
        rows = [((0, -1, 0, (), ()), (5, 1)), ((0, -1, 0, (), (0,)), (5, 1))]
        self.assertEqual(self.judged(rows, sky, [(1, 2)]), (True, True))
        self.assertEqual(self.judged(rows[:1], sky, [(1, 2)]), (False, False))
        self.assertEqual(self.judged(rows[1:], sky, [(1, 2)]), (False, False))
        self.assertEqual(self.judged(rows[:1], sky, [(0, 1)]), (True, True))
        self.assertEqual(self.judged(rows[1:], sky, [(1, 1)]), (True, True))
        self.assertEqual(self.judged([], sky, [(1, 1)]), (False, False))

    def test_a_state_twice(self):
        for row in self.ROWS:
            self.assertEqual(self.judged(self.ROWS + [row]), (False, False))
        self.assertEqual(self.judged(self.ROWS + [(FIRST, (1, 1))]), (False, False))

    def test_numbers_below_0(self):
        low = [(state, (-7, 2)) for state in STATES]
        self.assertEqual(self.judged(low), (True, False))
        # Leaving at the last look reaches 0, so no number below 0 is the most; at least 0 is reached from all of them.
        rows = [(FIRST, (-1, 3)), (STATES[1], (-5, 1)), (STATES[2], (-1, 1)), (STATES[3], (-8, 1)), (STATES[4], (0, 1))]
        self.assertEqual(self.judged(rows), (True, False))
        rows = [(FIRST, (14, 3)), (STATES[1], (0, 1)), (STATES[2], (0, 1)), (STATES[3], (-1, 2)), (STATES[4], (0, 1))]
        self.assertEqual(self.judged(rows), (True, False))
        rows[0] = (FIRST, (5, 1))
        self.assertEqual(self.judged(rows), (False, False))

    def test_by_the_words_and_what_they_bound(self):
        chance = random.Random(42)
        counts = {}
        for seed, sky in some_skies(range(110)):
            chances = chances_for(sky, chance)
            table = mean_table(sky, chances)
            self.assertEqual(self.judged(table, sky, chances), (True, True))
            for _ in range(8 if table else 0):
                rows = list(table)
                for _ in range(chance.randint(1, 3)):
                    at = chance.randrange(len(rows))
                    state, number = rows[at]
                    by = chance.choice([Fraction(1), Fraction(-1), Fraction(1, 7), Fraction(-1, 100), 50, -50])
                    rows[at] = (state, told(Fraction(*number) + by))
                    if chance.randrange(5) == 0 and len(rows) > 1:
                        del rows[chance.randrange(len(rows))]
                    if chance.randrange(12) == 0:
                        rows.append(rows[0])
                    chance.shuffle(rows)
                judged = self.judged(rows, sky, chances)
                self.assertEqual(judged, naive_judged(sky, chances, rows))
                counts[judged] = counts.get(judged, 0) + 1
                numbers = {state: Fraction(*number) for state, number in rows}
                if True in judged:
                    firsts = firsts_with_chances(sky, chances)
                    total = sum(part * numbers[state] for state, part in firsts)
                    if judged[0]:
                        self.assertGreaterEqual(Fraction(*mean_worth(sky, chances)), total)
                    if judged[1]:
                        self.assertLessEqual(Fraction(*mean_worth(sky, chances)), total)
        self.assertGreater(min(counts.get(part, 0) for part in [(True, False), (False, True), (False, False)]), 40)


class Arguments(unittest.TestCase):
    def test_arguments_stay_and_results_are_new(self):
        for seed in (3, 8):
            sky = chance_sky(seed)
            chances = chances_for(sky, random.Random(seed))
            rows = mean_table(sky, chances)
            keeps(self, check_chances, sky, chances)
            keeps(self, chance_of, chances, [0])
            keeps(self, mean_worth, sky, chances)
            keeps(self, mean_table, sky, chances)
            keeps(self, is_mean_lower, sky, chances, rows)
            keeps(self, is_mean_upper, sky, chances, rows)
            keeps(self, mean_of, sky, sure_rule(sky, most=4), chances)


if __name__ == "__main__":
    unittest.main()

"""Points 20 to 22 and 25: states, the looks that can come next, rests, best plans and their numbers."""

import itertools
import random
import unittest

from skypasses.best import (
    after_look, best_next, best_plan, best_plans, best_worth, count_best, count_plans, next_looks, rest_of,
    state_behind,
)
from skypasses.skies import check_sky, is_plan, worth_of

from tests.helpers import (
    EXAMPLE, all_states, chance_sky, every_plan, keeps, large_sky, make_sky, naive_behind, naive_reached,
    naive_rest, naive_ways, naive_worth, run_store, small_worths, tick_loss,
)

BEGINNING = (-1, 0, ())
EMPTY = make_sky()


def some_skies(many):
    """Skies by chance, every other one with worths so small that there are several best plans."""
    for seed in range(many):
        sky = chance_sky(seed)
        yield small_worths(sky, seed) if seed % 2 else sky


def some_states(sky, seed, many):
    """States of the sky, reached or not."""
    return random.Random(seed).sample(all_states(sky), many)


class Example(unittest.TestCase):
    def test_examples_of_the_document(self):
        self.assertEqual(best_plan(EXAMPLE), [1, 2])
        self.assertEqual(count_plans(EXAMPLE), 5)
        self.assertEqual(next_looks(EXAMPLE, (0, 4, (0,))), [])


class States(unittest.TestCase):
    def test_the_empty_plan(self):
        self.assertEqual(state_behind(EXAMPLE, []), BEGINNING)
        self.assertEqual(state_behind(EMPTY, []), BEGINNING)

    def test_last_look_level_and_wishes(self):
        self.assertEqual(state_behind(EXAMPLE, [0]), (0, 4, (0,)))
        self.assertEqual(state_behind(EXAMPLE, [1]), (1, 3, (1,)))
        self.assertEqual(state_behind(EXAMPLE, [1, 2]), (2, 5, (0, 1)))

    def test_wishes_ascend_in_whatever_order_they_were_looked_at(self):
        sky = make_sky([(wish, 10 * at, 1, 0, 1) for at, wish in enumerate([3, 0, 2, 1])], [1] * 4)
        self.assertEqual(state_behind(sky, [0, 1, 2, 3]), (3, 4, (0, 1, 2, 3)))
        self.assertEqual(state_behind(sky, [0, 2]), (2, 2, (2, 3)))

    def test_each_state_look_by_look(self):
        for sky in some_skies(60):
            self.assertEqual(sorted({state_behind(sky, plan) for plan in every_plan(sky)}), naive_reached(sky))
            for plan in every_plan(sky):
                state = BEGINNING
                for look in plan:
                    self.assertIn(look, next_looks(sky, state))
                    state = after_look(sky, state, look)
                self.assertEqual(state_behind(sky, plan), state)


class NextLooks(unittest.TestCase):
    def test_from_the_beginning(self):
        self.assertEqual(next_looks(EXAMPLE, BEGINNING), [0, 1, 2])
        self.assertEqual(next_looks(EMPTY, BEGINNING), [])

    def test_room_at_the_time_0(self):
        self.assertEqual(next_looks(EXAMPLE, (-1, 2, ())), [0, 1, 2])
        self.assertEqual(next_looks(EXAMPLE, (-1, 3, ())), [1, 2])
        self.assertEqual(next_looks(EXAMPLE, (-1, 4, ())), [1, 2])
        self.assertEqual(next_looks(EXAMPLE, (-1, 5, ())), [2])
        self.assertEqual(next_looks(EXAMPLE, (-1, 6, ())), [2])

    def test_wishes_that_are_taken(self):
        self.assertEqual(next_looks(EXAMPLE, (-1, 0, (0,))), [1])
        self.assertEqual(next_looks(EXAMPLE, (-1, 0, (1,))), [0, 2])
        self.assertEqual(next_looks(EXAMPLE, (-1, 0, (0, 1))), [])

    def test_the_wish_of_the_last_look_need_not_be_taken(self):
        self.assertEqual(next_looks(EXAMPLE, (0, 4, ())), [2])
        self.assertEqual(next_looks(EXAMPLE, (0, 4, (1,))), [2])
        self.assertEqual(after_look(EXAMPLE, (0, 4, ()), 2), (2, 4, (0,)))
        self.assertEqual(next_looks(EXAMPLE, (1, 3, ())), [2])

    def test_turning(self):
        for start, told in [(6, []), (7, [1]), (8, [1])]:
            sky = make_sky([(0, 0, 5, 0, 1), (1, start, 1, 21, 1)])
            self.assertEqual(next_looks(sky, (0, 1, (0,))), told)
            self.assertEqual(next_looks(sky, (-1, 1, (0,))), [1])

    def test_no_look_comes_behind_itself_or_a_later_one(self):
        sky = make_sky([(0, 5, 1, 0, 1), (1, 5, 1, 0, 1), (2, 5, 1, 0, 1)], [1] * 3)
        for last in range(3):
            self.assertEqual(next_looks(sky, (last, 1, ())), [])

    def test_a_store_of_any_amount_up_to_the_capacity(self):
        sky = make_sky([(0, 0, 1, 0, 1), (1, 8, 2, 0, 4)], ears=[(2, 4, 1), (8, 10, 1)])
        self.assertEqual([next_looks(sky, (0, store, (0,))) for store in range(7)], [[1]] * 5 + [[], []])
        self.assertEqual([after_look(sky, (0, store, (0,)), 1)[1] for store in range(5)], [4, 4, 4, 4, 4])
        self.assertEqual(next_looks(sky, (0, 4, (0,))), [1])
        sky = make_sky([(0, 0, 1, 0, 1), (1, 8, 2, 0, 2)], ears=[(2, 4, 1), (8, 10, 1)])
        self.assertEqual([after_look(sky, (0, store, (0,)), 1)[1] for store in range(7)], [2, 2, 2, 2, 2, 3, 4])

    def test_states_reached_and_not_tick_by_tick(self):
        for seed, sky in enumerate(some_skies(100)):
            for state in some_states(sky, seed, 15):
                ways = naive_ways(sky, state)
                self.assertEqual(next_looks(sky, state), [look for look, _ in ways])
                for look, behind in ways:
                    self.assertEqual(after_look(sky, state, look), behind)
                    self.assertIs(type(after_look(sky, state, look)[2]), tuple)

    def test_lists_are_plans_exactly_if_their_looks_can_come_next(self):
        for sky in some_skies(30):
            for names in itertools.product(range(len(sky[0])), repeat=3):
                state = BEGINNING
                for look in names:
                    state = naive_behind(sky, state, look) if state else None
                self.assertIs(is_plan(sky, list(names)), state is not None)


class Rests(unittest.TestCase):
    def test_nothing_can_come(self):
        self.assertEqual(rest_of(EMPTY, BEGINNING), 0)
        self.assertEqual(best_next(EMPTY, BEGINNING), [])
        self.assertEqual(rest_of(EXAMPLE, (2, 5, (0, 1))), 0)
        self.assertEqual(rest_of(EXAMPLE, (-1, 0, (0, 1))), 0)

    def test_the_example(self):
        self.assertEqual(rest_of(EXAMPLE, BEGINNING), 12)
        self.assertEqual(best_next(EXAMPLE, BEGINNING), [1])
        self.assertEqual(rest_of(EXAMPLE, (1, 3, (1,))), 5)
        self.assertEqual(best_next(EXAMPLE, (1, 3, (1,))), [2])
        self.assertEqual(rest_of(EXAMPLE, (-1, 5, ())), 5)
        self.assertEqual(best_next(EXAMPLE, (-1, 0, (1,))), [0, 2])
        self.assertEqual(rest_of(EXAMPLE, (0, 4, ())), 5)

    def test_looks_that_gain_nothing_are_best_ones_where_the_rest_is_0(self):
        sky = make_sky([(0, 0, 1, 0, 1), (1, 5, 1, 0, 1)], [0, 3])
        self.assertEqual(best_next(sky, BEGINNING), [0, 1])
        self.assertEqual(best_next(sky, (-1, 0, (1,))), [0])
        self.assertEqual(rest_of(sky, (-1, 0, (1,))), 0)

    def test_states_reached_and_not_by_all_ways(self):
        for seed, sky in enumerate(some_skies(80)):
            for state in some_states(sky, seed, 12) + [BEGINNING]:
                rest = naive_rest(sky, state)
                self.assertEqual(rest_of(sky, state), rest)
                told = [
                    look for look, behind in naive_ways(sky, state)
                    if sky[1][sky[0][look][0]] + naive_rest(sky, behind) == rest
                ]
                self.assertEqual(best_next(sky, state), told)


class BestPlans(unittest.TestCase):
    def test_a_sky_without_looks(self):
        self.assertEqual((best_worth(EMPTY), best_plan(EMPTY), best_plans(EMPTY, most=5)), (0, [], [[]]))
        self.assertEqual((count_plans(EMPTY), count_best(EMPTY)), (1, 1))

    def test_a_sky_whose_looks_never_fit(self):
        sky = make_sky([(0, 0, 1, 0, 7), (1, 5, 1, 0, 8)])
        self.assertEqual((best_worth(sky), best_plan(sky)), (0, []))
        self.assertEqual((count_plans(sky), count_best(sky)), (1, 1))

    def test_the_example(self):
        self.assertEqual((best_worth(EXAMPLE), count_best(EXAMPLE)), (12, 1))
        self.assertEqual(best_plans(EXAMPLE, most=100), [[1, 2]])

    def test_order_of_lists_with_looks_that_gain_nothing(self):
        # The wish 1 gains nothing: each best plan can be with it or without it.
        sky = make_sky([(1, 0, 1, 0, 1), (0, 5, 1, 0, 1), (1, 10, 1, 0, 1), (0, 15, 1, 0, 1)], [4, 0])
        told = [[0, 1], [0, 3], [1], [1, 2], [2, 3], [3]]
        self.assertEqual(best_plans(sky, most=100), told)
        self.assertEqual(best_plan(sky), [0, 1])
        self.assertEqual((best_worth(sky), count_best(sky), count_plans(sky)), (4, 6, 9))
        for most in range(8):
            self.assertEqual(best_plans(sky, most=most), told[:most])

    def test_worths_of_0_alone(self):
        sky = make_sky([(0, 0, 1, 0, 1), (1, 5, 1, 0, 1)], [0, 0])
        self.assertEqual(best_plans(sky, most=100), [[], [0], [0, 1], [1]])
        self.assertEqual((best_plan(sky), best_worth(sky), count_best(sky)), ([], 0, 4))

    def test_the_greatest_worth_is_not_that_of_the_worthiest_look(self):
        sky = make_sky([(0, 0, 20, 0, 1), (1, 1, 1, 0, 1), (2, 3, 1, 0, 1)], [9, 5, 5])
        self.assertEqual((best_worth(sky), best_plan(sky)), (10, [1, 2]))
        sky = make_sky([(0, 0, 1, 0, 6), (1, 3, 1, 0, 3), (2, 6, 1, 0, 3)], [9, 5, 5])
        self.assertEqual((best_worth(sky), best_plan(sky)), (10, [1, 2]))

    def test_all_plans_tried(self):
        several = 0
        for sky in some_skies(150):
            plans = every_plan(sky)
            greatest = max(naive_worth(sky, plan) for plan in plans)
            best = [plan for plan in plans if naive_worth(sky, plan) == greatest]
            several += len(best) > 3
            self.assertEqual(best_worth(sky), greatest)
            self.assertEqual(best_plan(sky), best[0])
            self.assertEqual(best_plans(sky, most=100), best[:100])
            for most in (0, 1, 2, 3):
                self.assertEqual(best_plans(sky, most=most), best[:most])
            self.assertEqual(count_plans(sky), len(plans))
            self.assertEqual(count_best(sky), len(best))
        self.assertGreater(several, 30)

    def test_how_many_is_passed_by_name(self):
        with self.assertRaises(TypeError):
            best_plans(EXAMPLE, 1)

    def test_skies_of_the_greatest_size(self):
        for seed in range(3):
            sky = large_sky(seed)
            check_sky(sky)
            self.assertGreater(count_plans(sky), 1000)
            plan = best_plan(sky)
            self.assertTrue(is_plan(sky, plan))
            self.assertEqual(worth_of(sky, plan), best_worth(sky))
            found = best_plans(sky, most=100)
            self.assertEqual(len(found), min(100, count_best(sky)))
            self.assertEqual(found, sorted(found))
            self.assertTrue(all(is_plan(sky, part) for part in found))
            self.assertEqual({worth_of(sky, part) for part in found}, {best_worth(sky)})

    def test_more_than_100_best_plans(self):
        # Three looks for each of four wishes and two for two: each plan takes one of them, or none.
        looks = [(k % 6, 10 * k, 1, 0, 1) for k in range(16)]
        sky = make_sky(looks, [0] * 6, capacity=30)
        self.assertEqual((count_plans(sky), count_best(sky)), (4 ** 4 * 3 ** 2, 4 ** 4 * 3 ** 2))
        plans = []
        for names in itertools.product(*[[None] + [k for k in range(16) if k % 6 == wish] for wish in range(6)]):
            plans.append(sorted(name for name in names if name is not None))
        self.assertEqual(best_plans(sky, most=100), sorted(plans)[:100])
        sky = make_sky(looks, [1] * 6, capacity=30)
        self.assertEqual((best_worth(sky), count_best(sky)), (6, 3 ** 4 * 2 ** 2))
        self.assertEqual(best_plans(sky, most=100), [plan for plan in sorted(plans) if len(plan) == 6][:100])


class Sums(unittest.TestCase):
    """Point 25: looks fit by their store exactly if they fit by the sums of sizes and rates."""

    def fits_by_sums(self, sky, names):
        looks, _, ears, capacity, _ = sky
        for at, first in enumerate(names):
            end = looks[first][1] + looks[first][2]
            for to in range(at, len(names)):
                sizes = sum(looks[name][4] for name in names[at:to + 1])
                lost = sum(tick_loss(ears, tick) for tick in range(end, looks[names[to]][1]))
                if sizes - lost > capacity:
                    return False
        return True

    def test_each_list_of_looks_behind_one_another(self):
        found = {True: 0, False: 0}
        for seed in range(120):
            # A turn of 90 degrees and wishes that differ: only room can be wrong.
            looks, _, ears, capacity, _ = chance_sky(seed)
            looks = [(at % 6, look[1], look[2], 0, look[4]) for at, look in enumerate(looks[:6])]
            sky = make_sky(looks, [1] * 6, ears, capacity, 90)
            for length in range(1, len(looks) + 1):
                for names in itertools.combinations(range(len(looks)), length):
                    ends = [looks[name][1] + looks[name][2] for name in names]
                    if any(looks[name][1] < end for name, end in zip(names[1:], ends)):
                        continue
                    told = self.fits_by_sums(sky, names)
                    self.assertEqual(all(run_store(sky, list(names))[0]), told)
                    self.assertIs(is_plan(sky, list(names)), told)
                    found[told] += 1
        self.assertGreater(min(found.values()), 100)


class Arguments(unittest.TestCase):
    def test_nothing_is_changed_and_lists_are_new(self):
        for sky in (EXAMPLE, small_worths(chance_sky(5), 5), EMPTY):
            keeps(self, state_behind, sky, best_plan(sky))
            keeps(self, next_looks, sky, BEGINNING)
            keeps(self, rest_of, sky, BEGINNING)
            keeps(self, best_next, sky, BEGINNING)
            for function in (best_worth, best_plan, count_plans, count_best):
                keeps(self, function, sky)
            keeps(self, best_plans, sky, most=100)
        keeps(self, after_look, EXAMPLE, (1, 3, (1,)), 2)

    def test_kinds_of_what_is_told(self):
        self.assertIs(type(state_behind(EXAMPLE, [1, 2])), tuple)
        self.assertIs(type(state_behind(EXAMPLE, [1, 2])[2]), tuple)
        self.assertIs(type(after_look(EXAMPLE, BEGINNING, 1)), tuple)
        for told in (next_looks(EXAMPLE, BEGINNING), best_next(EXAMPLE, BEGINNING), best_plan(EXAMPLE)):
            self.assertIs(type(told), list)
        for number in (best_worth(EXAMPLE), count_plans(EXAMPLE), count_best(EMPTY), rest_of(EMPTY, BEGINNING)):
            self.assertIs(type(number), int)


if __name__ == "__main__":
    unittest.main()

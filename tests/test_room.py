"""Points 41 to 44: timely lists and their needs, steps, idle ears, the fewest ears."""

import itertools
import random
import unittest

from skypasses.best import best_worth
from skypasses.room import fewest_ears, gain_of_room, idle_ears, is_timely, need_for, need_of, steps
from skypasses.skies import is_plan

from tests.helpers import (
    EXAMPLE, chance_sky, every_plan, keeps, large_sky, make_sky, naive_store, naive_worth, naive_wrong, small_worths,
    without,
)

STORING = make_sky([(0, 0, 2, 0, 4), (1, 10, 1, 0, 4)], ears=[(2, 4, 1), (5, 7, 1)])


def roomy(sky, capacity):
    return (*sky[:3], capacity, sky[4])


def every_timely(sky):
    """All timely lists: the plans if there is room for everything."""
    return every_plan(roomy(sky, 1000))


def naive_need(sky, names):
    """The greatest of what is in the store when a look starts and its size together, told tick by tick."""
    return max((naive_store(sky, names[:at], sky[0][name][1]) + sky[0][name][4] for at, name in enumerate(names)),
               default=0)


def naive_greatest(rows, capacity):
    return max(worth for need, worth in rows if need <= capacity)


def some_skies(seeds):
    for seed in seeds:
        sky = chance_sky(seed)
        sky = (sky[0][:7], *sky[1:])
        yield seed, (small_worths(sky, seed) if seed % 2 else sky)


class Timely(unittest.TestCase):
    def test_examples_of_the_document(self):
        self.assertEqual(need_of(EXAMPLE, [1, 2]), 5)
        self.assertIs(is_timely(EXAMPLE, [1, 2]), True)
        self.assertIs(is_timely(EXAMPLE, [0, 1]), False)
        self.assertIs(is_timely(EXAMPLE, [0, 2]), False)

    def test_the_empty_list(self):
        for sky in (EXAMPLE, make_sky()):
            self.assertIs(is_timely(sky, []), True)
            self.assertEqual(need_of(sky, []), 0)

    def test_room_is_not_asked(self):
        sky = make_sky([(0, 0, 1, 0, 30), (1, 5, 1, 0, 30)], capacity=1)
        self.assertIs(is_timely(sky, [0]), True)
        self.assertIs(is_timely(sky, [0, 1]), True)
        self.assertEqual([need_of(sky, names) for names in ([0], [1], [0, 1])], [30, 30, 60])

    def test_names_in_any_order_and_any_number_of_times(self):
        for names in ([1, 0], [0, 0], [1, 1, 1], [2, 1], [0, 2, 1, 0], [2, 2], [0] * 20):
            self.assertIs(is_timely(EXAMPLE, names), False)

    def test_turning_to_the_tick(self):
        for start, told in ((3, False), (4, True)):
            sky = make_sky([(0, 0, 2, 0, 4), (1, start, 1, 40, 30)])
            self.assertIs(is_timely(sky, [0, 1]), told)

    def test_by_the_words(self):
        for seed, sky in some_skies(range(40)):
            names = range(len(sky[0]))
            told = [list(part) for k in range(4) for part in itertools.product(names, repeat=k)]
            for part in told[:: 1 + len(told) // 150]:
                expected = naive_wrong(roomy(sky, 1000), part) is None
                self.assertIs(is_timely(sky, part), expected)
                if expected:
                    need = naive_need(sky, part)
                    self.assertEqual(need_of(sky, part), need)
                    self.assertIs(is_plan(sky, part), need <= sky[3])
                    if need:
                        self.assertIs(is_plan(roomy(sky, need), part), True)
                        self.assertIs(is_plan(roomy(sky, need - 1), part), False)

    def test_ears_empty_the_store_ahead_of_a_start(self):
        self.assertEqual(need_of(STORING, [0, 1]), 4)
        self.assertEqual(need_of(without(STORING, [0]), [0, 1]), 6)
        self.assertEqual(need_of(without(STORING, [0, 1]), [0, 1]), 8)


class Steps(unittest.TestCase):
    def test_examples_of_the_document(self):
        self.assertEqual(need_for(EXAMPLE, 6), 3)
        self.assertIsNone(need_for(EXAMPLE, 13))
        self.assertEqual(steps(EXAMPLE), [(1, 0), (2, 5), (3, 7), (5, 12)])

    def test_needs_of_all_worths(self):
        told = [need_for(EXAMPLE, worth) for worth in range(15)]
        self.assertEqual(told, [1] + [2] * 5 + [3] * 2 + [5] * 5 + [None] * 2)
        self.assertIsNone(need_for(EXAMPLE, 1000))

    def test_a_sky_without_looks(self):
        self.assertEqual(steps(make_sky()), [(1, 0)])
        self.assertEqual([need_for(make_sky(), worth) for worth in (0, 1, 1000)], [1, None, None])

    def test_the_first_step_has_the_worth_for_the_capacity_1(self):
        sky = make_sky([(0, 0, 1, 0, 1), (1, 5, 1, 0, 2)])
        self.assertEqual(steps(sky), [(1, 5), (2, 7), (3, 12)])
        self.assertEqual([need_for(sky, worth) for worth in (0, 5, 6, 7, 8, 12, 13)], [1, 1, 2, 2, 3, 3, None])

    def test_wishes_that_are_worth_nothing(self):
        sky = make_sky([(0, 0, 1, 0, 3)], worths=[0])
        self.assertEqual(steps(sky), [(1, 0)])
        self.assertEqual([need_for(sky, worth) for worth in (0, 1)], [1, None])

    def test_capacities_beyond_all_skies(self):
        looks = [(k, 10 * k, 1, 0, 30) for k in range(6)]
        sky = make_sky(looks, worths=[1] * 6, capacity=1)
        self.assertEqual(steps(sky), [(1, 0)] + [(30 * k, k) for k in range(1, 7)])
        self.assertEqual([need_for(sky, worth) for worth in (1, 6, 7)], [30, 180, None])
        self.assertEqual([gain_of_room(sky, more) for more in (0, 28, 29, 178, 179, 1000)], [0, 0, 1, 5, 6, 6])

    def test_all_timely_lists(self):
        for seed, sky in some_skies(range(70)):
            rows = [(naive_need(sky, names), naive_worth(sky, names)) for names in every_timely(sky)]
            greatest = [naive_greatest(rows, capacity) for capacity in range(1, 100)]
            told = [(1, greatest[0])]
            told += [(k + 1, greatest[k]) for k in range(1, 99) if greatest[k] > greatest[k - 1]]
            self.assertEqual(steps(sky), told)
            top = greatest[-1]
            for worth in sorted({0, 1, 5, top - 1, top, top + 1, 1000} | set(greatest)):
                if worth >= 0:
                    reaching = [capacity for capacity, worth_then in told if worth_then >= worth]
                    self.assertEqual(need_for(sky, worth), reaching[0] if reaching else None)
            for more in (0, 1, 2, 5, 20, 1000):
                gain = naive_greatest(rows, sky[3] + more) - naive_greatest(rows, sky[3])
                self.assertEqual(gain_of_room(sky, more), gain)

    def test_the_greatest_size(self):
        sky = large_sky(8)
        told = steps(sky)
        self.assertEqual(told, sorted(told))
        self.assertEqual(told[-1][1], best_worth(sky) + gain_of_room(sky, 1000))
        for capacity, worth in told:
            self.assertEqual(need_for(sky, worth), capacity)
            self.assertEqual(best_worth(roomy(sky, capacity)), worth)


class Ears(unittest.TestCase):
    def test_idle_ears(self):
        # Each of the two takes 2, and together they are needed to the last unit if the capacity is 4.
        self.assertEqual(idle_ears(STORING), [0, 1])
        self.assertEqual(fewest_ears(STORING), [[0], [1]])
        self.assertEqual(idle_ears(roomy(STORING, 4)), [])
        self.assertEqual(fewest_ears(roomy(STORING, 4)), [[0, 1]])
        self.assertEqual(idle_ears(roomy(STORING, 8)), [0, 1])
        self.assertEqual(fewest_ears(roomy(STORING, 8)), [[]])

    def test_one_idle_and_one_not(self):
        sky = make_sky([(0, 5, 2, 0, 4), (1, 20, 1, 0, 4)], ears=[(0, 4, 9), (7, 9, 1), (20, 30, 9)])
        self.assertEqual(idle_ears(sky), [0, 2])
        self.assertEqual(fewest_ears(sky), [[1]])

    def test_any_two_of_four_ears(self):
        ears = [(4 * k, 4 * k + 2, 1) for k in range(1, 5)]
        sky = make_sky([(0, 0, 2, 0, 5), (1, 30, 1, 0, 5)], ears=ears)
        self.assertEqual(idle_ears(sky), [0, 1, 2, 3])
        self.assertEqual(fewest_ears(sky), [[0, 1], [0, 2], [0, 3], [1, 2], [1, 3], [2, 3]])
        self.assertEqual(fewest_ears(roomy(sky, 8)), [[0], [1], [2], [3]])
        self.assertEqual(fewest_ears(roomy(sky, 5)), [[0, 1, 2], [0, 1, 3], [0, 2, 3], [1, 2, 3]])

    def test_skies_without_ears_and_without_looks(self):
        for sky in (make_sky(), make_sky([(0, 0, 1, 0, 2)])):
            self.assertEqual(idle_ears(sky), [])
            self.assertEqual(fewest_ears(sky), [[]])
        sky = make_sky(ears=[(0, 1, 1), (2, 3, 1)])
        self.assertEqual(idle_ears(sky), [0, 1])
        self.assertEqual(fewest_ears(sky), [[]])

    def test_by_the_words(self):
        several = 0
        chance = random.Random(43)
        for seed in range(120):
            sky = chance_sky(seed)
            capacity = chance.randint(max([look[4] for look in sky[0]], default=1), 14)
            sky = roomy((sky[0][:5], sky[1], [(a, b, min(r, 2)) for a, b, r in sky[2]], *sky[3:]), min(capacity, 30))
            worth = {}
            names = range(len(sky[2]))
            for k in range(len(names) + 1):
                for part in itertools.combinations(names, k):
                    left = without(sky, [ear for ear in names if ear not in part])
                    worth[part] = max(naive_worth(left, plan) for plan in every_plan(left))
            every = tuple(names)
            idle = [ear for ear in names if worth[tuple(e for e in names if e != ear)] == worth[every]]
            self.assertEqual(idle_ears(sky), idle)
            enough = [part for part in worth if worth[part] == worth[every]]
            least = min(len(part) for part in enough)
            fewest = sorted(list(part) for part in enough if len(part) == least)
            self.assertEqual(fewest_ears(sky), fewest)
            several += least > 0
        self.assertGreater(several, 12)


class MoreRoom(unittest.TestCase):
    def test_the_greatest_worth_is_never_less_and_plans_stay(self):
        for seed, sky in some_skies(range(60)):
            worths = [best_worth(roomy(sky, sky[3] + more)) for more in range(6)]
            self.assertEqual(worths, sorted(worths))
            for plan in every_plan(sky):
                self.assertIs(is_plan(roomy(sky, sky[3] + 1), plan), True)
            for ear in range(len(sky[2])):
                self.assertLessEqual(best_worth(without(sky, [ear])), best_worth(sky))


class Arguments(unittest.TestCase):
    def test_arguments_stay_and_results_are_new(self):
        for sky in (EXAMPLE, STORING, chance_sky(8)):
            keeps(self, is_timely, sky, [0, 1])
            keeps(self, need_of, sky, [])
            keeps(self, need_for, sky, 5)
            keeps(self, steps, sky)
            keeps(self, gain_of_room, sky, 3)
            keeps(self, idle_ears, sky)
            keeps(self, fewest_ears, sky)


if __name__ == "__main__":
    unittest.main()

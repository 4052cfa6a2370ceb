"""Points 45 to 49: sets that can be had, full sets, clashes, standings, prices, ways to have a set."""

import itertools
import unittest

from skypasses.best import best_worth, count_plans
from skypasses.clashes import can_be_had, clashes, full_sets, plan_for, price, standing, ways_to_have

from tests.helpers import (
    EXAMPLE, chance_sky, keeps, large_sky, make_sky, naive_worth, naive_wrong, plans_once, small_worths, wishes_in,
)

SKY = ([(0, 0, 2, 0, 4), (1, 3, 1, 30, 3), (0, 6, 1, 0, 2)], [5, 7], [(2, 4, 1)], 4, 20)


def every_set(sky):
    """All sets of wishes, in ascending order."""
    names = range(len(sky[1]))
    return sorted(list(part) for k in range(len(names) + 1) for part in itertools.combinations(names, k))


def had_sets(sky):
    return [part for part in every_set(sky) if any(wishes_in(sky, plan) == part for plan in plans_once(sky))]


def some_skies(seeds):
    for seed in seeds:
        sky = chance_sky(seed)
        sky = (sky[0][:7], *sky[1:])
        yield small_worths(sky, seed) if seed % 2 else sky


class Examples(unittest.TestCase):
    def test_examples_of_the_document(self):
        self.assertEqual((full_sets(SKY), clashes(SKY), standing(SKY, 1)), ([[0], [1]], [[0, 1]], "all"))

    def test_with_more_room(self):
        self.assertEqual((full_sets(EXAMPLE), clashes(EXAMPLE)), ([[0, 1]], []))
        self.assertEqual(plan_for(EXAMPLE, [0, 1]), [1, 2])
        self.assertIsNone(plan_for(SKY, [0, 1]))
        self.assertEqual((price(SKY, 0), price(SKY, 1), standing(SKY, 0)), (2, 0, "none"))
        self.assertEqual([ways_to_have(SKY, part) for part in ([], [0], [1], [0, 1])], [1, 2, 1, 0])
        self.assertEqual([ways_to_have(EXAMPLE, part) for part in ([], [0], [1], [0, 1])], [1, 2, 1, 1])


class Edges(unittest.TestCase):
    def test_the_empty_set_can_always_be_had(self):
        for sky in (SKY, EXAMPLE, make_sky()):
            self.assertIs(can_be_had(sky, []), True)
            self.assertEqual(plan_for(sky, []), [])
            self.assertEqual(ways_to_have(sky, []), 1)

    def test_a_sky_without_looks(self):
        sky = make_sky(worths=[5, 0, 7])
        self.assertEqual(full_sets(sky), [[]])
        self.assertEqual(clashes(sky), [[0], [1], [2]])
        for wish in range(3):
            self.assertIs(can_be_had(sky, [wish]), False)
            self.assertEqual(standing(sky, wish), "none")
            self.assertIsNone(price(sky, wish))
            self.assertEqual(ways_to_have(sky, [wish]), 0)

    def test_a_wish_that_no_look_is_for(self):
        sky = make_sky([(0, 0, 1, 0, 1), (2, 5, 1, 0, 1)], worths=[5, 9, 7])
        self.assertEqual(full_sets(sky), [[0, 2]])
        self.assertEqual(clashes(sky), [[1]])
        self.assertEqual([standing(sky, wish) for wish in range(3)], ["all", "none", "all"])
        self.assertEqual([price(sky, wish) for wish in range(3)], [0, None, 0])
        self.assertIs(can_be_had(sky, [0, 1, 2]), False)

    def test_the_set_of_all_wishes(self):
        looks = [(wish, 5 * wish, 1, 0, 1) for wish in range(6)]
        sky = make_sky(looks, worths=[1, 2, 3, 4, 5, 6])
        every = [0, 1, 2, 3, 4, 5]
        self.assertEqual((full_sets(sky), clashes(sky)), ([every], []))
        self.assertIs(can_be_had(sky, every), True)
        self.assertEqual(plan_for(sky, every), every)
        self.assertEqual(ways_to_have(sky, every), 1)
        tight = (*sky[:3], 5, sky[4])
        self.assertIs(can_be_had(tight, every), False)
        self.assertEqual(clashes(tight), [every])
        self.assertEqual(len(full_sets(tight)), 6)

    def test_full_sets_and_clashes_stand_in_the_order_of_lists(self):
        # Of the wishes 0, 1, 2 only one can be had, and 3 together with each of them.
        looks = [(wish, 0, 3, 0, 1) for wish in (2, 1, 0)] + [(3, 3, 1, 0, 1)]
        sky = make_sky(looks, worths=[1, 1, 1, 1])
        self.assertEqual(full_sets(sky), [[0, 3], [1, 3], [2, 3]])
        self.assertEqual(clashes(sky), [[0, 1], [0, 2], [1, 2]])

    def test_standings_of_wishes_that_are_worth_nothing(self):
        sky = make_sky([(0, 0, 1, 0, 1), (1, 5, 1, 0, 1)], worths=[0, 7])
        self.assertEqual([standing(sky, wish) for wish in range(2)], ["some", "all"])
        self.assertEqual([price(sky, wish) for wish in range(2)], [0, 0])

    def test_some_best_plans(self):
        sky = make_sky([(0, 0, 3, 0, 1), (1, 2, 3, 0, 1)], worths=[5, 5])
        self.assertEqual([standing(sky, wish) for wish in range(2)], ["some", "some"])
        self.assertEqual([price(sky, wish) for wish in range(2)], [0, 0])


class ByTheWords(unittest.TestCase):
    def test_sets(self):
        for sky in some_skies(range(100)):
            had = had_sets(sky)
            full = [part for part in had if not any(set(part) < set(other) for other in had)]
            self.assertEqual(full_sets(sky), full)
            lost = [part for part in every_set(sky) if part not in had]
            least = [part for part in lost if not any(set(other) < set(part) for other in lost)]
            self.assertEqual(clashes(sky), least)
            for part in every_set(sky):
                self.assertIs(can_be_had(sky, part), part in had)
                plans = [plan for plan in plans_once(sky) if wishes_in(sky, plan) == part]
                self.assertEqual(ways_to_have(sky, part), len(plans))
                told = plan_for(sky, part)
                self.assertIn(told, plans or [None])
                # Points 45 to 47: parts, full sets and clashes tell the same.
                self.assertIs(part in had, any(set(part) <= set(other) for other in full))
                self.assertIs(part in had, not any(set(other) <= set(part) for other in least))
            self.assertEqual(sum(ways_to_have(sky, part) for part in every_set(sky)), count_plans(sky))

    def test_standings_and_prices(self):
        for sky in some_skies(range(100, 220)):
            worths = [(naive_worth(sky, plan), wishes_in(sky, plan)) for plan in plans_once(sky)]
            best = max(worth for worth, _ in worths)
            tops = [wishes for worth, wishes in worths if worth == best]
            for wish in range(len(sky[1])):
                has = [wish in wishes for wishes in tops]
                told = "all" if all(has) else "some" if any(has) else "none"
                self.assertEqual(standing(sky, wish), told)
                mine = [worth for worth, wishes in worths if wish in wishes]
                self.assertEqual(price(sky, wish), best - max(mine) if mine else None)

    def test_the_greatest_size(self):
        sky = large_sky(9)
        for part in full_sets(sky):
            plan = plan_for(sky, part)
            self.assertIsNone(naive_wrong(sky, plan))
            self.assertEqual(wishes_in(sky, plan), part)
        prices = [price(sky, wish) for wish in range(6)]
        self.assertIn(0, prices)
        self.assertEqual(sum(ways_to_have(sky, part) for part in every_set(sky)), count_plans(sky))
        self.assertGreater(best_worth(sky), 0)


class Arguments(unittest.TestCase):
    def test_arguments_stay_and_results_are_new(self):
        for sky in (SKY, EXAMPLE, chance_sky(8)):
            keeps(self, can_be_had, sky, [0])
            keeps(self, plan_for, sky, [0])
            keeps(self, full_sets, sky)
            keeps(self, clashes, sky)
            keeps(self, standing, sky, 0)
            keeps(self, price, sky, 0)
            keeps(self, ways_to_have, sky, [0])


if __name__ == "__main__":
    unittest.main()

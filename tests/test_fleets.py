"""Points 26, 27, 29 and 30: fleets, fleet plans, their greatest worths and their numbers."""

import itertools
import unittest

from skypasses import errors
from skypasses.best import best_plan, best_plans, best_worth, count_best, count_plans
from skypasses.errors import BadNumber, BadSize, BadTime, BadWish
from skypasses.fleets import (
    check_fleet, count_fleet_best, fleet_plan, fleet_worth, is_fleet_plan, loss_of, skies_for, whose,
)

from tests.helpers import EXAMPLE, chance_fleet, chance_sky, every_plan, keeps, large_sky, make_sky

ONE = ([(0, 0, 2, 0, 4), (1, 3, 1, 30, 3)], [5, 7], [(2, 4, 1)], 6, 20)
OTHER = ([(0, 6, 1, 0, 2)], [5, 7], [], 3, 20)
FLEET = [ONE, OTHER]
WORTHS = [31, 17, 23, 5, 11, 2]


def large_fleet(sizes, worths=WORTHS):
    skies = [large_sky(seed, looks) for seed, looks in enumerate(sizes)]
    return [(sky[0], list(worths), *sky[2:]) for sky in skies]


def wishes_told(fleet, plans):
    return [sky[0][look][0] for sky, plan in zip(fleet, plans) for look in plan]


def every_fleet_plan(fleet):
    """All fleet plans with their worths, in the order of lists of lists, by trying all plans of all skies together."""
    found = []
    for told in itertools.product(*[every_plan(sky) for sky in fleet]):
        wishes = wishes_told(fleet, told)
        if len(set(wishes)) == len(wishes):
            found.append((list(told), sum(fleet[0][1][wish] for wish in wishes)))
    return sorted(found)


def best_fleet_plans(fleet):
    plans = every_fleet_plan(fleet)
    greatest = max(worth for _, worth in plans)
    return greatest, [told for told, worth in plans if worth == greatest]


class Example(unittest.TestCase):
    def test_examples_of_the_document(self):
        self.assertEqual(fleet_worth(FLEET), 12)
        self.assertEqual(fleet_plan(FLEET), [[1], [0]])
        self.assertEqual(whose(FLEET, [[1], [0]]), [1, 0])
        self.assertEqual(count_fleet_best(FLEET), 1)
        self.assertEqual(skies_for(FLEET, 0), [1])
        self.assertEqual((loss_of(FLEET, 1), loss_of(FLEET, 0)), (5, 7))


class Check(unittest.TestCase):
    def raises(self, due, fleet):
        with self.assertRaises(errors.SkyError) as caught:
            check_fleet(fleet)
        self.assertIs(caught.exception.__class__, due, fleet)

    def test_fleets_that_pass(self):
        self.assertIsNone(check_fleet(FLEET))
        self.assertIsNone(check_fleet([EXAMPLE]))
        self.assertIsNone(check_fleet([EXAMPLE, EXAMPLE, EXAMPLE]))
        for seed in range(60):
            self.assertIsNone(check_fleet(chance_fleet(seed)))

    def test_numbers_of_skies(self):
        self.raises(BadSize, [])
        self.raises(BadSize, [EXAMPLE] * 4)
        self.raises(BadSize, [EXAMPLE] * 5)
        self.raises(BadSize, [([], [], [], 0, 0)] * 4)

    def test_what_check_sky_raises(self):
        wrong = [
            (BadSize, ([], [], [], 6, 20)),
            (BadNumber, ([], [5, 100], [], 6, 20)),
            (BadWish, make_sky([(2, 0, 1, 0, 1)])),
            (BadTime, make_sky(ears=[(3, 3, 1)])),
            (BadNumber, make_sky(capacity=31)),
        ]
        for due, sky in wrong:
            self.raises(due, [sky])
            self.raises(due, [sky, EXAMPLE])
            self.raises(due, [EXAMPLE, sky])
            self.raises(due, [EXAMPLE, EXAMPLE, sky])

    def test_the_first_sky_that_is_wrong_is_told(self):
        self.raises(BadTime, [EXAMPLE, make_sky(ears=[(3, 3, 1)]), make_sky([(2, 0, 1, 0, 1)])])
        self.raises(BadWish, [make_sky([(2, 0, 1, 0, 1)]), make_sky(ears=[(3, 3, 1)])])

    def test_worths_that_differ(self):
        for worths in ([5, 8], [7, 5], [5], [5, 7, 0], [5, 7, 7]):
            self.raises(BadNumber, [EXAMPLE, make_sky(worths=worths)])
            self.raises(BadNumber, [EXAMPLE, EXAMPLE, make_sky(worths=worths)])
            self.raises(BadNumber, [make_sky(worths=worths), EXAMPLE])

    def test_all_skies_are_checked_ahead_of_their_worths(self):
        self.raises(BadTime, [EXAMPLE, make_sky(worths=[5, 8]), make_sky(ears=[(3, 3, 1)])])
        self.raises(BadSize, [EXAMPLE, make_sky(worths=[5, 8]), make_sky(worths=[])])


class FleetPlans(unittest.TestCase):
    def test_plans_of_all_skies(self):
        for plans in ([[], []], [[0], []], [[1], [0]], [[], [0]], [[1], []]):
            self.assertIs(is_fleet_plan(FLEET, plans), True)

    def test_a_list_that_is_no_plan_of_its_sky(self):
        self.assertIs(is_fleet_plan(FLEET, [[0, 1], []]), False)
        self.assertIs(is_fleet_plan(FLEET, [[], [0, 0]]), False)
        self.assertIs(is_fleet_plan([OTHER, ONE], [[], [0, 1]]), False)
        self.assertIs(is_fleet_plan([make_sky([(0, 0, 1, 0, 7)])], [[0]]), False)

    def test_a_wish_of_two_looks(self):
        self.assertIs(is_fleet_plan(FLEET, [[0], [0]]), False)
        third = [make_sky([(0, 5, 1, 0, 1)]), make_sky(), make_sky([(0, 50, 1, 0, 1), (1, 60, 1, 0, 1)])]
        self.assertIs(is_fleet_plan(third, [[0], [], [0]]), False)
        self.assertIs(is_fleet_plan(third, [[0], [], [0, 1]]), False)
        self.assertIs(is_fleet_plan(third, [[0], [], [1]]), True)

    def test_all_lists_tried(self):
        for seed in range(40):
            fleet = chance_fleet(seed)
            told = [plans for plans, _ in every_fleet_plan(fleet)]
            names = [range(len(sky[0])) for sky in fleet]
            lists = [[list(p) for n in range(3) for p in itertools.product(part, repeat=n)] for part in names]
            for plans in itertools.islice(itertools.product(*lists), 0, 4000, 7):
                self.assertIs(is_fleet_plan(fleet, list(plans)), list(plans) in told)
            for plans in told:
                self.assertIs(is_fleet_plan(fleet, plans), True)

    def test_whose(self):
        self.assertEqual(whose(FLEET, [[], []]), [None, None])
        self.assertEqual(whose(FLEET, [[0], []]), [0, None])
        self.assertEqual(whose(FLEET, [[], [0]]), [1, None])
        self.assertEqual(whose([EXAMPLE], [[1, 2]]), [0, 0])
        fleet = [make_sky([(wish, 5, 1, 0, 1)], [1] * 4) for wish in (3, 0, 2)]
        self.assertEqual(whose(fleet, [[0], [0], [0]]), [1, None, 2, 0])
        for seed in range(20):
            fleet = chance_fleet(seed)
            for plans, _ in every_fleet_plan(fleet)[:20]:
                for wish, name in enumerate(whose(fleet, plans)):
                    told = [at for at in range(len(fleet)) if wish in wishes_told([fleet[at]], [plans[at]])]
                    self.assertEqual(told, [] if name is None else [name])


class Best(unittest.TestCase):
    def test_fleets_without_looks(self):
        for many in (1, 2, 3):
            fleet = [make_sky()] * many
            self.assertEqual((fleet_worth(fleet), fleet_plan(fleet), count_fleet_best(fleet)), (0, [[]] * many, 1))
            self.assertEqual((skies_for(fleet, 0), skies_for(fleet, 1)), ([], []))
            self.assertEqual([loss_of(fleet, sky) for sky in range(many)], [0] * many)

    def test_a_fleet_of_one_sky(self):
        for seed in range(60):
            sky = chance_sky(seed)
            self.assertEqual(fleet_worth([sky]), best_worth(sky))
            self.assertEqual(fleet_plan([sky]), [best_plan(sky)])
            self.assertEqual(count_fleet_best([sky]), count_best(sky))
            self.assertEqual(loss_of([sky], 0), best_worth(sky))
            told = sorted({sky[0][look][0] for plan in best_plans(sky, most=100) for look in plan})
            if count_best(sky) <= 100:
                self.assertEqual([wish for wish in range(len(sky[1])) if skies_for([sky], wish) == [0]], told)

    def test_wishes_are_looked_at_once(self):
        # Each sky alone looks at both wishes: together they gain nothing more.
        sky = make_sky([(0, 0, 1, 0, 1), (1, 5, 1, 0, 1)])
        self.assertEqual(fleet_worth([sky, sky]), 12)
        self.assertEqual(fleet_plan([sky, sky]), [[], [0, 1]])
        self.assertEqual(count_fleet_best([sky, sky]), 4)
        self.assertEqual(skies_for([sky, sky], 0), [0, 1])
        self.assertEqual((loss_of([sky, sky], 0), loss_of([sky, sky], 1)), (0, 0))

    def test_the_first_best_fleet_plan(self):
        # The look that gains nothing stands nowhere, and the plan of the sky 0 that comes first decides.
        free = make_sky([(0, 0, 1, 0, 1), (1, 5, 1, 0, 1)], [0, 7])
        self.assertEqual(fleet_plan([free, free]), [[], [0, 1]])
        self.assertEqual(fleet_plan([free, make_sky(worths=[0, 7])]), [[0, 1], []])
        self.assertEqual(count_fleet_best([free, make_sky(worths=[0, 7])]), 2)
        self.assertEqual(count_fleet_best([free, free]), 6)

    def test_stores_and_cameras_are_of_each_sky_alone(self):
        # In one sky the looks would be too early behind one another, and too large together.
        looks = [(0, 0, 5, 90, 6), (1, 3, 5, -90, 6)]
        fleet = [make_sky(looks[:1]), make_sky(looks[1:])]
        self.assertEqual((fleet_worth([make_sky(looks)]), fleet_worth(fleet)), (7, 12))

    def test_all_fleet_plans_tried(self):
        several = 0
        for seed in range(120):
            fleet = chance_fleet(seed)
            greatest, plans = best_fleet_plans(fleet)
            several += len(plans) > 3
            self.assertEqual(fleet_worth(fleet), greatest)
            self.assertEqual(fleet_plan(fleet), plans[0])
            self.assertEqual(count_fleet_best(fleet), len(plans))
            for wish in range(len(fleet[0][1])):
                told = sorted({whose(fleet, part)[wish] for part in plans} - {None})
                self.assertEqual(skies_for(fleet, wish), told)
            for sky in range(len(fleet)):
                told = max(worth for part, worth in every_fleet_plan(fleet) if not part[sky])
                self.assertEqual(loss_of(fleet, sky), greatest - told)
        self.assertGreater(several, 30)


class Orders(unittest.TestCase):
    """Point 29."""

    def test_the_order_of_the_skies_does_not_count(self):
        for seed in range(80):
            fleet = chance_fleet(seed)
            for order in itertools.permutations(range(len(fleet))):
                turned = [fleet[name] for name in order]
                self.assertEqual(fleet_worth(turned), fleet_worth(fleet))
                self.assertEqual(count_fleet_best(turned), count_fleet_best(fleet))
                for wish in range(len(fleet[0][1])):
                    self.assertEqual(sorted(order[name] for name in skies_for(turned, wish)), skies_for(fleet, wish))

    def test_bounds_by_the_skies_alone(self):
        for seed in range(120):
            fleet = chance_fleet(seed)
            alone = [best_worth(sky) for sky in fleet]
            self.assertLessEqual(max(alone), fleet_worth(fleet))
            self.assertLessEqual(fleet_worth(fleet), sum(alone))
            self.assertLessEqual(fleet_worth(fleet[:-1] or [make_sky()]), fleet_worth(fleet))


class Large(unittest.TestCase):
    def answers(self, fleet):
        self.assertIsNone(check_fleet(fleet))
        plans = fleet_plan(fleet)
        self.assertIs(is_fleet_plan(fleet, plans), True)
        self.assertEqual(sum(fleet[0][1][wish] for wish in wishes_told(fleet, plans)), fleet_worth(fleet))
        self.assertGreater(count_fleet_best(fleet), 0)
        for wish in range(len(fleet[0][1])):
            self.assertTrue(set(skies_for(fleet, wish)) <= {0, 1, 2})
        for sky in range(len(fleet)):
            self.assertTrue(0 <= loss_of(fleet, sky) <= best_worth(fleet[sky]))

    def test_three_skies_of_eight_six_and_five_looks(self):
        self.answers(large_fleet((8, 6, 5)))
        self.answers(large_fleet((8, 6, 5), [0] * 6))

    def test_three_skies_of_sixteen_looks(self):
        self.answers(large_fleet((16, 16, 16)))
        self.assertEqual(fleet_worth(large_fleet((16, 16, 16))), sum(WORTHS))

    def test_all_plans_are_best_ones_if_nothing_is_worth_anything(self):
        # Without turning and with room for all: each wish is looked at by one of its looks, or by none.
        looks = [(k % 6, 10 * k, 1, 0, 1) for k in range(16)]
        sky = make_sky(looks, [0] * 6, capacity=30)
        self.assertEqual(count_plans(sky), 4 ** 4 * 3 ** 2)
        self.assertEqual(count_fleet_best([sky] * 3), 10 ** 4 * 7 ** 2)
        self.assertEqual(fleet_plan([sky] * 3), [[], [], []])
        self.assertEqual([skies_for([sky] * 3, wish) for wish in range(6)], [[0, 1, 2]] * 6)
        sky = make_sky(looks, [1] * 6, capacity=30)
        self.assertEqual((fleet_worth([sky] * 3), count_fleet_best([sky] * 3)), (6, 9 ** 4 * 6 ** 2))


class Arguments(unittest.TestCase):
    def test_nothing_is_changed_and_lists_are_new(self):
        for fleet in (FLEET, [EXAMPLE], chance_fleet(4), [make_sky()]):
            for function in (check_fleet, fleet_worth, fleet_plan, count_fleet_best):
                keeps(self, function, fleet)
            keeps(self, is_fleet_plan, fleet, fleet_plan(fleet))
            keeps(self, whose, fleet, fleet_plan(fleet))
            keeps(self, skies_for, fleet, 0)
            keeps(self, loss_of, fleet, 0)

    def test_kinds_of_what_is_told(self):
        self.assertEqual([type(plan) for plan in fleet_plan(FLEET)], [list, list])
        for told in (fleet_plan(FLEET), whose(FLEET, [[1], [0]]), skies_for(FLEET, 1)):
            self.assertIs(type(told), list)
        for number in (fleet_worth(FLEET), count_fleet_best(FLEET), loss_of(FLEET, 0)):
            self.assertIs(type(number), int)


if __name__ == "__main__":
    unittest.main()

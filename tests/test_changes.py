"""Points 60 to 63: looks left out and put in, lines of wishes, skies in another form."""

import random
import unittest

from skypasses.best import best_worth
from skypasses.changes import (
    line_of, losses, mirrored, moved, scaled, threshold, turned_back, with_look, without_look,
)
from skypasses.clashes import full_sets, ways_to_have
from skypasses.errors import BadNumber, BadSize, BadTime, BadWish
from skypasses.late import plans_on
from skypasses.skies import check_sky, levels, worth_of

from tests.helpers import (
    EXAMPLE, chance_sky, keeps, large_sky, make_sky, naive_worth, plans_once, small_worths, wishes_in,
)


def some_skies(seeds):
    for seed in seeds:
        sky = chance_sky(seed)
        sky = (sky[0][:7], *sky[1:])
        yield seed, (small_worths(sky, seed) if seed % 2 else sky)


def greatest(sky):
    return max(naive_worth(sky, plan) for plan in plans_once(sky))


def with_worth(sky, wish, worth):
    return (sky[0], sky[1][:wish] + [worth] + sky[1][wish + 1:], *sky[2:])


class Looks(unittest.TestCase):
    def test_examples_of_the_document(self):
        self.assertEqual((losses(EXAMPLE), line_of(EXAMPLE, 1)), ([0, 7, 5], (5, 5)))

    def test_without_a_look(self):
        looks = EXAMPLE[0]
        for at, left in enumerate(([looks[1], looks[2]], [looks[0], looks[2]], [looks[0], looks[1]])):
            told = without_look(EXAMPLE, at)
            self.assertEqual(told, (left, *EXAMPLE[1:]))
            for part in (0, 1, 2):
                self.assertIsNot(told[part], EXAMPLE[part])
        self.assertEqual(without_look(make_sky([looks[0]]), 0), make_sky())

    def test_a_look_is_put_in_behind_all_that_start_up_to_its_start(self):
        for start, at in ((0, 1), (1, 1), (2, 1), (3, 2), (4, 2), (5, 2), (6, 3), (7, 3), (200, 3)):
            look = (1, start, 4, -9, 8)
            told = with_look(EXAMPLE, look)
            self.assertEqual(told, (EXAMPLE[0][:at] + [look] + EXAMPLE[0][at:], *EXAMPLE[1:]))
            self.assertEqual(without_look(told, at), EXAMPLE)
            for part in (0, 1, 2):
                self.assertIsNot(told[part], EXAMPLE[part])
        self.assertEqual(with_look(make_sky(), (0, 5, 1, 0, 1)), make_sky([(0, 5, 1, 0, 1)]))
        same = make_sky([(0, 5, 1, 0, 1), (0, 5, 2, 0, 1)])
        self.assertEqual(with_look(same, (1, 5, 3, 0, 1))[0][2], (1, 5, 3, 0, 1))

    def test_a_look_that_is_wrong(self):
        cases = [
            ((2, 3, 1, 0, 1), BadWish), ((-1, 3, 1, 0, 1), BadWish), ((True, 3, 1, 0, 1), BadWish),
            (("0", None, 1, 0, 1), BadWish), ((None, 3, 0, 0, 1), BadWish), ((0.0, 3, 1, 0, 1), BadWish),
            ((0, -1, 1, 0, 1), BadTime), ((0, 201, 1, 0, 1), BadTime), ((0, True, 1, 0, 1), BadTime),
            ((0, None, 1, 0, 1), BadTime), ((0, 3.0, 1, 0, 1), BadTime), ((0, "3", 1, 0, 1), BadTime),
            ((0, [3], 1, 0, 1), BadTime), ((0, 10 ** 40, 1, 0, 1), BadTime), ((0, -10 ** 40, 1, 0, 1), BadTime),
            ((0, float("nan"), 1, 0, 1), BadTime), ((0, 3, 0, 91, 1), BadTime), ((0, 3, 21, 91, 1), BadTime),
            ((0, 3, None, 0, 1), BadTime), ((0, 3, True, 0, 1), BadTime), ((0, 3, 1.0, 0, 1), BadTime),
            ((0, 3, 1, 91, 1), BadNumber), ((0, 3, 1, -91, 1), BadNumber), ((0, 3, 1, False, 1), BadNumber),
            ((0, 3, 1, 0, 0), BadNumber), ((0, 3, 1, 0, 31), BadNumber), ((0, 3, 1, "", 1), BadNumber),
            ((0, 3, 1, 0, True), BadNumber), ((0, 3, 1, 0, {}), BadNumber),
        ]
        for look, error in cases:
            with self.subTest(look=look):
                with self.assertRaises(error):
                    with_look(EXAMPLE, look)

    def test_a_look_too_many(self):
        many = make_sky([(0, k, 1, 0, 1) for k in range(16)])
        for look in ((0, 5, 1, 0, 1), (9, None, 0, 99, 99), (0, True, 1, 0, 1)):
            with self.assertRaises(BadSize):
                with_look(many, look)
        self.assertEqual(len(with_look(without_look(many, 3), (0, 5, 1, 0, 1))[0]), 16)

    def test_losses_by_the_words(self):
        for seed, sky in some_skies(range(100)):
            told = losses(sky)
            best = greatest(sky)
            self.assertEqual(told, [best - greatest(without_look(sky, at)) for at in range(len(sky[0]))])
            for look, loss in zip(sky[0], told):
                self.assertTrue(0 <= loss <= sky[1][look[0]])

    def test_a_look_put_in_brings_at_most_its_worth(self):
        chance = random.Random(60)
        for seed, sky in some_skies(range(100)):
            wish = chance.randrange(len(sky[1]))
            look = (wish, chance.randint(0, 40), chance.randint(1, 4), chance.randint(-90, 90), chance.randint(1, 9))
            gain = greatest(with_look(sky, look)) - greatest(sky)
            self.assertTrue(0 <= gain <= sky[1][wish])

    def test_a_sky_without_looks_and_the_greatest_size(self):
        self.assertEqual(losses(make_sky()), [])
        sky = large_sky(12)
        told = losses(sky)
        for at in (0, 7, 15):
            self.assertEqual(told[at], best_worth(sky) - best_worth(without_look(sky, at)))


class Lines(unittest.TestCase):
    def test_a_wish_that_no_look_is_for(self):
        sky = make_sky([(0, 0, 1, 0, 1)])
        self.assertEqual((line_of(sky, 1), threshold(sky, 1)), ((5, None), None))
        self.assertEqual((line_of(sky, 0), threshold(sky, 0)), ((0, 0), 0))
        self.assertEqual((line_of(make_sky(), 0), threshold(make_sky(), 0)), ((0, None), None))

    def test_a_threshold_beyond_all_worths(self):
        looks = [(5, 0, 20, 0, 1)] + [(wish, 4 * wish, 1, 0, 1) for wish in range(5)]
        sky = make_sky(sorted(looks, key=lambda look: look[1]), worths=[99] * 5 + [7])
        self.assertEqual((line_of(sky, 5), threshold(sky, 5)), ((495, 0), 495))

    def test_the_worth_of_the_wish_itself_does_not_count(self):
        for worth in (0, 7, 99):
            sky = with_worth(EXAMPLE, 1, worth)
            self.assertEqual((line_of(sky, 1), threshold(sky, 1)), ((5, 5), 0))

    def test_by_the_words(self):
        for seed, sky in some_skies(range(100)):
            for wish in range(len(sky[1])):
                plans = [(wishes_in(sky, plan), naive_worth(sky, plan)) for plan in plans_once(sky)]
                aside = max(worth for wishes, worth in plans if wish not in wishes)
                mine = [worth - sky[1][wish] for wishes, worth in plans if wish in wishes]
                along = max(mine) if mine else None
                self.assertEqual(line_of(sky, wish), (aside, along))
                told = threshold(sky, wish)
                if along is None:
                    self.assertIsNone(told)
                for worth in {0, 1, 50, 99, told or 0, max(0, (told or 0) - 1)}:
                    other = with_worth(sky, wish, worth)
                    best = greatest(other)
                    self.assertEqual(best, aside if along is None else max(aside, along + worth))
                    tops = [plan for plan in plans_once(other) if naive_worth(other, plan) == best]
                    has = any(wish in wishes_in(other, plan) for plan in tops)
                    self.assertIs(has, told is not None and worth >= told)


class Mirrored(unittest.TestCase):
    def test_angles_have_the_other_sign(self):
        told = mirrored(EXAMPLE)
        self.assertEqual(told, ([(0, 0, 2, 0, 4), (1, 3, 1, -30, 3), (0, 6, 1, 0, 2)], *EXAMPLE[1:]))
        for part in (0, 1, 2):
            self.assertIsNot(told[part], EXAMPLE[part])
        self.assertEqual(mirrored(make_sky()), make_sky())

    def test_plans_stay(self):
        for seed, sky in some_skies(range(60)):
            told = mirrored(sky)
            check_sky(told)
            self.assertEqual(mirrored(told), sky)
            self.assertEqual(plans_once(told), plans_once(sky))
            for plan in plans_on(sky):
                self.assertEqual((worth_of(told, plan), levels(told, plan)), (worth_of(sky, plan), levels(sky, plan)))


class Moved(unittest.TestCase):
    def test_starts_and_times_of_ears(self):
        looks = [(0, 10, 2, 0, 4), (1, 13, 1, 30, 3), (0, 16, 1, 0, 2)]
        told = moved(EXAMPLE, 10)
        self.assertEqual(told, (looks, [5, 7], [(12, 14, 1)], 6, 20))
        self.assertEqual(moved(told, -10), EXAMPLE)
        same = moved(EXAMPLE, 0)
        self.assertEqual(same, EXAMPLE)
        for part in (0, 1, 2):
            self.assertIsNot(same[part], EXAMPLE[part])

    def test_times_up_to_200_and_beyond(self):
        self.assertEqual(moved(EXAMPLE, 194)[0][2], (0, 200, 1, 0, 2))
        ear = make_sky(ears=[(3, 9, 1)])
        self.assertEqual(moved(ear, 191)[2], [(194, 200, 1)])
        self.assertEqual(moved(ear, -3)[2], [(0, 6, 1)])
        look = make_sky([(0, 3, 20, 0, 1)])
        self.assertEqual(moved(look, 197)[0], [(0, 200, 20, 0, 1)])
        self.assertEqual(moved(look, -3)[0], [(0, 0, 20, 0, 1)])
        for sky, by in ((EXAMPLE, 195), (EXAMPLE, -1), (ear, 192), (ear, -4), (look, 198), (look, -4),
                        (EXAMPLE, 10 ** 30), (EXAMPLE, -10 ** 30), (ear, 10 ** 30), (look, -10 ** 30)):
            with self.assertRaises(BadTime):
                moved(sky, by)

    def test_a_sky_without_times_is_moved_by_any_number(self):
        for by in (0, 1, -1, 10 ** 30, -10 ** 30):
            self.assertEqual(moved(make_sky(), by), make_sky())

    def test_plans_stay(self):
        for seed, sky in some_skies(range(60)):
            told = moved(sky, 7)
            check_sky(told)
            self.assertEqual(plans_once(told), plans_once(sky))
            for plan in plans_on(sky):
                self.assertEqual((worth_of(told, plan), levels(told, plan)), (worth_of(sky, plan), levels(sky, plan)))


class Scaled(unittest.TestCase):
    def test_sizes_rates_and_the_capacity(self):
        told = scaled(EXAMPLE, 3)
        self.assertEqual(
            told, ([(0, 0, 2, 0, 12), (1, 3, 1, 30, 9), (0, 6, 1, 0, 6)], [5, 7], [(2, 4, 3)], 18, 20)
        )
        same = scaled(EXAMPLE, 1)
        self.assertEqual(same, EXAMPLE)
        for part in (0, 1, 2):
            self.assertIsNot(same[part], EXAMPLE[part])

    def test_up_to_30_and_beyond(self):
        size = make_sky([(0, 0, 1, 0, 10)], capacity=1)
        rate = make_sky(ears=[(0, 1, 10)], capacity=1)
        capacity = make_sky([(0, 0, 1, 0, 1)], ears=[(0, 1, 1)], capacity=10)
        for sky in (size, rate, capacity):
            check_sky(scaled(sky, 3))
            for by in (4, 31, 10 ** 30):
                with self.assertRaises(BadNumber):
                    scaled(sky, by)
        last = make_sky([(0, 0, 1, 0, 1), (0, 1, 1, 0, 20)], ears=[(0, 1, 1), (1, 2, 20)], capacity=1)
        with self.assertRaises(BadNumber):
            scaled(last, 2)

    def test_plans_stay(self):
        for seed, sky in some_skies(range(60)):
            sky = (
                [(*look[:4], min(look[4], 6)) for look in sky[0]], sky[1],
                [(*ear[:2], min(ear[2], 6)) for ear in sky[2]], min(sky[3], 9), sky[4],
            )
            for by in (1, 2, 3):
                told = scaled(sky, by)
                check_sky(told)
                self.assertEqual(plans_once(told), plans_once(sky))
                for plan in plans_on(sky):
                    self.assertEqual(worth_of(told, plan), worth_of(sky, plan))
                    self.assertEqual(levels(told, plan), [by * level for level in levels(sky, plan)])


class TurnedBack(unittest.TestCase):
    def test_looks_and_ears_the_other_way_round(self):
        sky = make_sky(
            [(0, 0, 2, 5, 4), (1, 3, 1, 30, 3), (0, 3, 4, 0, 2), (1, 4, 3, -9, 1)],
            ears=[(2, 4, 1), (4, 9, 2), (190, 200, 3)],
        )
        told = turned_back(sky)
        self.assertEqual(
            told,
            (
                [(1, 193, 3, -9, 1), (0, 193, 4, 0, 2), (1, 196, 1, 30, 3), (0, 198, 2, 5, 4)], [5, 7],
                [(0, 10, 3), (191, 196, 2), (196, 198, 1)], 6, 20,
            ),
        )
        check_sky(told)

    def test_of_the_same_start_the_greater_name_stands_first(self):
        sky = make_sky([(0, 3, 4, 1, 1), (1, 4, 3, 2, 1), (0, 5, 2, 3, 1), (1, 5, 2, 4, 1)])
        self.assertEqual([look[3] for look in turned_back(sky)[0]], [4, 3, 2, 1])

    def test_ends_up_to_200_and_beyond(self):
        self.assertEqual(turned_back(make_sky([(0, 180, 20, 0, 1)]))[0], [(0, 0, 20, 0, 1)])
        self.assertEqual(turned_back(make_sky([(0, 199, 1, 0, 1)]))[0], [(0, 0, 1, 0, 1)])
        for look in ((0, 181, 20, 0, 1), (0, 200, 1, 0, 1), (0, 200, 20, 0, 1)):
            for looks in ([look], [(0, 0, 1, 0, 1), look]):
                with self.assertRaises(BadTime):
                    turned_back(make_sky(looks))
        with self.assertRaises(BadTime):
            turned_back(make_sky([(0, 190, 20, 0, 1), (0, 195, 1, 0, 1)]))

    def test_a_sky_without_looks(self):
        told = turned_back(make_sky(ears=[(0, 200, 1)]))
        self.assertEqual(told, make_sky(ears=[(0, 200, 1)]))
        self.assertEqual(turned_back(make_sky()), make_sky())

    def test_plans_the_other_way_round(self):
        for seed, sky in some_skies(range(70)):
            told = turned_back(sky)
            check_sky(told)
            if len({(look[1], look[2]) for look in sky[0]}) == len(sky[0]):
                names = [told[0].index((wish, 200 - start - length, length, angle, size))
                         for wish, start, length, angle, size in sky[0]]
                self.assertEqual(sorted(sorted(names[name] for name in plan) for plan in plans_once(sky)),
                                 plans_once(told))
            self.assertEqual(best_worth(told), best_worth(sky))
            self.assertEqual(full_sets(told), full_sets(sky))
            for part in full_sets(sky):
                self.assertEqual(ways_to_have(told, part), ways_to_have(sky, part))


class Arguments(unittest.TestCase):
    def test_arguments_stay_and_results_are_new(self):
        for sky in (EXAMPLE, (chance_sky(8)[0][1:], *chance_sky(8)[1:])):
            for function in (losses, mirrored, turned_back):
                keeps(self, function, sky)
            keeps(self, without_look, sky, 0)
            keeps(self, with_look, sky, (0, 5, 1, 0, 1))
            keeps(self, line_of, sky, 0)
            keeps(self, threshold, sky, 0)
            keeps(self, moved, sky, 3)
            keeps(self, scaled, (sky[0][:0], sky[1], [], 3, 9), 2)
        keeps(self, scaled, EXAMPLE, 2)


if __name__ == "__main__":
    unittest.main()

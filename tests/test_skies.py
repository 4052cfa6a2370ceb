"""Points 4 to 8: ends, turning, the store, plans, their worths and levels."""

import itertools
import unittest

from skypasses.skies import emptied, end_of, is_plan, levels, turning, worth_of, wrong_in

from tests.helpers import (
    EXAMPLE, chance_sky, keeps, make_sky, naive_emptied, naive_turning, naive_wrong, run_store,
)


def all_lists(sky, longest):
    """All lists of names of looks up to a length, ascending or not."""
    names = range(len(sky[0]))
    for length in range(longest + 1):
        for told in itertools.product(names, repeat=length):
            yield list(told)


def all_plans(sky):
    names = range(len(sky[0]))
    for length in range(len(sky[0]) + 1):
        for told in itertools.combinations(names, length):
            if naive_wrong(sky, list(told)) is None:
                yield list(told)


class Example(unittest.TestCase):
    def test_example_of_the_document(self):
        self.assertEqual(wrong_in(EXAMPLE, [0, 1]), ("turning", 1))
        self.assertIsNone(wrong_in(EXAMPLE, [1, 2]))
        self.assertEqual(levels(EXAMPLE, [1, 2]), [3, 5])


class Ends(unittest.TestCase):
    def test_end_is_start_and_length(self):
        sky = make_sky([(0, 0, 1, 0, 1), (1, 0, 20, 0, 1), (0, 13, 7, 0, 1), (1, 200, 20, 0, 1)])
        self.assertEqual([end_of(sky, look) for look in range(4)], [1, 20, 20, 220])


class Turning(unittest.TestCase):
    def ticks(self, first, second, turn):
        sky = make_sky([(0, 0, 1, first, 1), (0, 0, 1, second, 1)], turn=turn)
        self.assertEqual(turning(sky, 1, 0), turning(sky, 0, 1), "both ways round")
        self.assertEqual((turning(sky, 0, 0), turning(sky, 1, 1)), (0, 0))
        return turning(sky, 0, 1)

    def test_differences_that_the_turn_divides_and_one_more_or_less(self):
        self.assertEqual([self.ticks(-10, -10 + d, 20) for d in (19, 20, 21, 39, 40, 41)], [1, 1, 2, 2, 2, 3])
        self.assertEqual([self.ticks(0, d, 30) for d in (29, 30, 31, 59, 60, 61)], [1, 1, 2, 2, 2, 3])

    def test_no_difference_and_the_least_one(self):
        for turn in (1, 20, 90):
            self.assertEqual(self.ticks(37, 37, turn), 0)
            self.assertEqual(self.ticks(37, 38, turn), 1)

    def test_greatest_difference(self):
        self.assertEqual([self.ticks(-90, 90, turn) for turn in (1, 7, 89, 90)], [180, 26, 3, 2])

    def test_the_turn_one_takes_a_tick_a_degree(self):
        for degrees in range(0, 181, 9):
            self.assertEqual(self.ticks(-90, -90 + degrees, 1), degrees)

    def test_the_way_from_the_first_to_the_second_look(self):
        sky = make_sky([(0, 0, 1, 0, 1), (0, 0, 1, 25, 1), (0, 0, 1, -90, 1)])
        told = [[turning(sky, first, second) for second in range(3)] for first in range(3)]
        self.assertEqual(told, [[0, 2, 5], [2, 0, 6], [5, 6, 0]])

    def test_least_number_of_ticks_that_is_enough(self):
        for seed in range(40):
            sky = chance_sky(seed)
            for first, second in itertools.product(range(len(sky[0])), repeat=2):
                self.assertEqual(turning(sky, first, second), naive_turning(sky, first, second))

    def test_turning_by_a_third_angle_never_takes_less(self):
        for turn in (1, 7, 20, 90):
            sky = make_sky([(0, 0, 1, angle, 1) for angle in (-90, -41, -3, 0, 4, 17, 60, 90)], turn=turn)
            for a, b, c in itertools.product(range(8), repeat=3):
                self.assertLessEqual(turning(sky, a, c), turning(sky, a, b) + turning(sky, b, c))


class Emptied(unittest.TestCase):
    def left(self, ears, amount, since, until):
        return emptied(make_sky(ears=ears), amount, since=since, until=until)

    def test_no_ear(self):
        self.assertEqual(self.left([], 7, 0, 300), 7)
        self.assertEqual(self.left([], 0, 0, 300), 0)

    def test_one_ear_tick_by_tick(self):
        ears = [(3, 6, 2)]
        told = [self.left(ears, 30, 0, until) for until in range(9)]
        self.assertEqual(told, [30, 30, 30, 30, 28, 26, 24, 24, 24])
        told = [self.left(ears, 30, since, 9) for since in range(9)]
        self.assertEqual(told, [24, 24, 24, 24, 26, 28, 30, 30, 30])

    def test_part_of_an_ear(self):
        ears = [(3, 10, 2)]
        self.assertEqual(self.left(ears, 30, 5, 7), 26)
        self.assertEqual(self.left(ears, 30, 3, 10), 16)
        self.assertEqual(self.left(ears, 30, 9, 10), 28)
        self.assertEqual(self.left(ears, 30, 2, 3), 30)
        self.assertEqual(self.left(ears, 30, 10, 11), 30)

    def test_several_ears(self):
        ears = [(0, 2, 1), (2, 4, 5), (10, 11, 3), (198, 200, 4)]
        self.assertEqual(self.left(ears, 30, 0, 200), 7)
        self.assertEqual(self.left(ears, 30, 1, 199), 12)
        self.assertEqual(self.left(ears, 30, 3, 10), 25)
        self.assertEqual(self.left(ears, 30, 4, 10), 30)

    def test_store_that_comes_to_be_empty_on_the_way(self):
        ears = [(0, 2, 3), (5, 7, 3)]
        self.assertEqual([self.left(ears, 5, 0, until) for until in range(8)], [5, 2, 0, 0, 0, 0, 0, 0])
        self.assertEqual([self.left(ears, 8, 0, until) for until in range(8)], [8, 5, 2, 2, 2, 2, 0, 0])
        self.assertEqual(self.left(ears, 6, 0, 2), 0)
        self.assertEqual(self.left(ears, 7, 0, 2), 1)

    def test_nothing_stays_nothing(self):
        self.assertEqual(self.left([(0, 200, 30)], 0, 0, 200), 0)

    def test_since_the_same_as_until(self):
        for time in (0, 3, 4, 6, 200, 300):
            self.assertEqual(self.left([(3, 6, 2)], 9, time, time), 9)

    def test_times_behind_200(self):
        ears = [(190, 200, 1)]
        self.assertEqual(self.left(ears, 30, 0, 300), 20)
        self.assertEqual(self.left(ears, 30, 195, 300), 25)
        self.assertEqual(self.left(ears, 30, 199, 201), 29)
        self.assertEqual(self.left(ears, 30, 200, 300), 30)
        self.assertEqual(self.left(ears, 30, 220, 240), 30)

    def test_amounts_of_any_size(self):
        self.assertEqual(self.left([(0, 200, 30)], 10 ** 15, 0, 200), 10 ** 15 - 6000)

    def test_tick_by_tick_and_in_two_parts(self):
        for seed in range(60):
            sky = chance_sky(seed)
            for amount, since, between, until in [(30, 0, 10, 40), (9, 4, 20, 31), (17, 2, 3, 12), (5, 0, 0, 300)]:
                whole = emptied(sky, amount, since=since, until=until)
                self.assertEqual(whole, naive_emptied(sky, amount, since, until))
                part = emptied(sky, amount, since=since, until=between)
                self.assertEqual(emptied(sky, part, since=between, until=until), whole)

    def test_times_are_passed_by_name(self):
        with self.assertRaises(TypeError):
            emptied(EXAMPLE, 5, 0, 3)


class WrongOrder(unittest.TestCase):
    SKY = make_sky([(k, 10 * k, 1, 0, 1) for k in range(5)], [1] * 5)

    def test_order(self):
        self.assertEqual(wrong_in(self.SKY, [1, 0]), ("order", 1))
        self.assertEqual(wrong_in(self.SKY, [0, 1, 3, 2]), ("order", 3))
        self.assertEqual(wrong_in(self.SKY, [0, 3, 1, 2, 0]), ("order", 2))
        self.assertIsNone(wrong_in(self.SKY, [0, 1, 2, 3, 4]))
        self.assertIsNone(wrong_in(self.SKY, [1, 4]))

    def test_a_name_told_twice(self):
        self.assertEqual(wrong_in(self.SKY, [0, 0]), ("order", 1))
        self.assertEqual(wrong_in(self.SKY, [0, 2, 2]), ("order", 2))
        self.assertEqual(wrong_in(self.SKY, [0, 2, 0]), ("order", 2))

    def test_only_the_one_directly_ahead_counts(self):
        self.assertEqual(wrong_in(self.SKY, [3, 1, 2]), ("order", 1))

    def test_the_empty_list_and_one_look(self):
        self.assertIsNone(wrong_in(self.SKY, []))
        self.assertIsNone(wrong_in(([], [1], [], 6, 20), []))
        for look in range(5):
            self.assertIsNone(wrong_in(self.SKY, [look]))


class WrongWish(unittest.TestCase):
    SKY = make_sky([(wish, 10 * at, 1, 0, 1) for at, wish in enumerate([0, 0, 1, 2, 0, 1])], [1] * 3)

    def test_wish(self):
        self.assertEqual(wrong_in(self.SKY, [0, 1]), ("wish", 1))
        self.assertEqual(wrong_in(self.SKY, [0, 2, 3, 5]), ("wish", 3))
        self.assertEqual(wrong_in(self.SKY, [0, 2, 4]), ("wish", 2))
        self.assertIsNone(wrong_in(self.SKY, [2, 3, 4]))

    def test_the_first_one_is_told(self):
        self.assertEqual(wrong_in(self.SKY, [0, 1, 2, 5]), ("wish", 1))


class WrongTurning(unittest.TestCase):
    def told(self, start, angle, turn=20, names=(0, 1), ahead=(0, 3, 4, 0, 1)):
        return wrong_in(make_sky([ahead, (1, start, 1, angle, 1)], turn=turn), list(names))

    def test_a_look_that_starts_just_when_another_one_ends(self):
        self.assertIsNone(self.told(7, 0))
        self.assertEqual(self.told(6, 0), ("turning", 1))
        self.assertEqual(self.told(3, 0), ("turning", 1))

    def test_with_the_turning(self):
        for angle, ticks in [(1, 1), (20, 1), (21, 2), (-40, 2), (-41, 3)]:
            self.assertIsNone(self.told(7 + ticks, angle))
            self.assertIsNone(self.told(8 + ticks, angle))
            self.assertEqual(self.told(6 + ticks, angle), ("turning", 1))

    def test_the_first_look_needs_no_turning(self):
        self.assertIsNone(wrong_in(make_sky([(0, 0, 1, 90, 1)], turn=1), [0]))
        self.assertIsNone(wrong_in(make_sky([(0, 0, 1, 0, 1), (1, 0, 1, -90, 1)], turn=1), [1]))

    def test_at_a_later_position(self):
        looks = [(0, 0, 1, 0, 1), (1, 5, 2, 0, 1), (2, 9, 1, 50, 1), (2, 10, 1, 50, 1)]
        sky = make_sky(looks, [1, 1, 1])
        self.assertEqual(wrong_in(sky, [0, 1, 2]), ("turning", 2))
        self.assertIsNone(wrong_in(sky, [0, 1, 3]))
        self.assertIsNone(wrong_in(sky, [0, 2]))

    def test_only_the_one_directly_ahead_counts(self):
        # From 0 to 60 degrees and back: the look in the middle is what makes the last one too early.
        looks = [(0, 0, 1, 0, 1), (1, 4, 1, 60, 1), (2, 7, 1, 0, 1)]
        sky = make_sky(looks, [1, 1, 1])
        self.assertEqual(wrong_in(sky, [0, 1, 2]), ("turning", 2))
        self.assertIsNone(wrong_in(sky, [0, 2]))


class WrongRoom(unittest.TestCase):
    def test_at_the_least_position(self):
        sky = make_sky([(0, 0, 1, 0, 6), (1, 5, 1, 0, 7)], capacity=6)
        self.assertIsNone(wrong_in(sky, [0]))
        self.assertEqual(wrong_in(sky, [1]), ("room", 0))

    def test_a_look_that_just_fits(self):
        for size, told in [(2, None), (3, None), (4, ("room", 1))]:
            sky = make_sky([(0, 0, 1, 0, 3), (1, 5, 1, 0, size)], capacity=6)
            self.assertEqual(wrong_in(sky, [0, 1]), told)

    def test_at_a_later_position(self):
        looks = [(0, 0, 1, 0, 2), (1, 5, 1, 0, 2), (2, 10, 1, 0, 3)]
        self.assertEqual(wrong_in(make_sky(looks, [1, 1, 1], capacity=6), [0, 1, 2]), ("room", 2))
        self.assertIsNone(wrong_in(make_sky(looks, [1, 1, 1], capacity=7), [0, 1, 2]))

    def test_ears_between_make_room(self):
        looks = [(0, 0, 1, 0, 5), (1, 8, 1, 0, 3)]
        self.assertEqual(wrong_in(make_sky(looks, ears=[(3, 4, 1)]), [0, 1]), ("room", 1))
        self.assertIsNone(wrong_in(make_sky(looks, ears=[(3, 5, 1)]), [0, 1]))
        self.assertIsNone(wrong_in(make_sky(looks, ears=[(3, 4, 1), (7, 8, 1)]), [0, 1]))

    def test_the_tick_ahead_of_the_start_counts_and_the_one_behind_it_does_not(self):
        looks = [(0, 0, 1, 0, 5), (1, 8, 4, 0, 3)]
        self.assertIsNone(wrong_in(make_sky(looks, ears=[(7, 8, 2)]), [0, 1]))
        self.assertEqual(wrong_in(make_sky(looks, ears=[(7, 9, 1)]), [0, 1]), ("room", 1))
        self.assertEqual(wrong_in(make_sky(looks, ears=[(8, 12, 9)]), [0, 1]), ("room", 1))

    def test_what_a_look_brings_is_there_only_at_its_end(self):
        # The ear of the ticks 2 and 3 finds nothing of the first look, the one of the tick 4 does.
        looks = [(0, 2, 2, 0, 5), (1, 8, 1, 0, 3)]
        self.assertEqual(wrong_in(make_sky(looks, ears=[(2, 4, 9)]), [0, 1]), ("room", 1))
        self.assertIsNone(wrong_in(make_sky(looks, ears=[(4, 5, 2)]), [0, 1]))

    def test_a_look_that_ends_just_then_has_brought_its_size(self):
        looks = [(0, 0, 4, 0, 5), (1, 4, 1, 0, 2)]
        self.assertEqual(wrong_in(make_sky(looks), [0, 1]), ("room", 1))
        self.assertEqual(wrong_in(make_sky(looks, ears=[(3, 4, 9)]), [0, 1]), ("room", 1))
        self.assertIsNone(wrong_in(make_sky(looks, capacity=7), [0, 1]))

    def test_a_store_that_is_emptied_while_a_look_lasts(self):
        # The ear takes of what the first look left while the second one lasts.
        looks = [(0, 0, 1, 0, 3), (1, 2, 4, 0, 3), (2, 6, 1, 0, 2)]
        for rate, told in [(1, None), (2, None)]:
            self.assertEqual(wrong_in(make_sky(looks, [1] * 3, [(3, 5, rate)]), [0, 1, 2]), told)
        self.assertEqual(wrong_in(make_sky(looks, [1] * 3, [(3, 4, 1)]), [0, 1, 2]), ("room", 2))
        # It takes nothing of the size of the look that lasts, however great its rate is.
        looks[2] = (2, 6, 1, 0, 4)
        self.assertEqual(wrong_in(make_sky(looks, [1] * 3, [(3, 5, 30)]), [0, 1, 2]), ("room", 2))

    def test_emptying_while_a_look_lasts_is_not_counted_ahead(self):
        looks = [(0, 0, 1, 0, 5), (1, 2, 10, 0, 2)]
        self.assertEqual(wrong_in(make_sky(looks, ears=[(2, 12, 30)]), [0, 1]), ("room", 1))


class WrongFirst(unittest.TestCase):
    # The look 1 is for the wish of 0, too early behind it, and too large beside it; so are others in part.
    LOOKS = [(0, 0, 4, 0, 4), (0, 2, 1, 90, 4), (1, 2, 1, 90, 4), (1, 9, 1, 90, 4), (1, 9, 1, 0, 2)]

    def test_first_of_several_at_the_same_position(self):
        sky = make_sky(self.LOOKS)
        self.assertEqual(wrong_in(sky, [0, 0]), ("order", 1))
        self.assertEqual(wrong_in(sky, [1, 0]), ("order", 1))
        self.assertEqual(wrong_in(sky, [0, 1]), ("wish", 1))
        self.assertEqual(wrong_in(sky, [0, 2]), ("turning", 1))
        self.assertEqual(wrong_in(sky, [0, 3]), ("room", 1))
        self.assertIsNone(wrong_in(sky, [0, 4]))

    def test_the_least_position_comes_first(self):
        sky = make_sky(self.LOOKS, capacity=3)
        self.assertEqual(wrong_in(sky, [0, 0]), ("room", 0))
        self.assertEqual(wrong_in(sky, [4, 0]), ("order", 1))
        sky = make_sky(self.LOOKS)
        self.assertEqual(wrong_in(sky, [0, 3, 0]), ("room", 1))
        self.assertEqual(wrong_in(sky, [0, 2, 1]), ("turning", 1))
        self.assertEqual(wrong_in(sky, [0, 1, 2]), ("wish", 1))

    def test_an_equal_start_is_too_early(self):
        sky = make_sky([(0, 5, 1, 0, 1), (1, 5, 1, 0, 1), (1, 6, 1, 0, 1)])
        self.assertEqual(wrong_in(sky, [0, 1]), ("turning", 1))
        self.assertEqual(wrong_in(sky, [1, 0]), ("order", 1))
        self.assertIsNone(wrong_in(sky, [0, 2]))

    def test_all_short_lists_tick_by_tick(self):
        found = {}
        for seed in range(60):
            sky = chance_sky(seed)
            for names in all_lists(sky, 3):
                told = wrong_in(sky, names)
                self.assertEqual(told, naive_wrong(sky, names), (sky, names))
                self.assertIs(is_plan(sky, names), told is None)
                found[told] = True
        for word in ("order", "wish", "turning", "room"):
            self.assertIn((word, 1), found)
            self.assertIn((word, 2), found)
        self.assertIn(("room", 0), found)

    def test_all_ascending_lists_tick_by_tick(self):
        for seed in range(60, 110):
            sky = chance_sky(seed)
            for length in range(len(sky[0]) + 1):
                for names in itertools.combinations(range(len(sky[0])), length):
                    self.assertEqual(wrong_in(sky, list(names)), naive_wrong(sky, list(names)))


class Plans(unittest.TestCase):
    def test_is_plan(self):
        self.assertIs(is_plan(EXAMPLE, [1, 2]), True)
        self.assertIs(is_plan(EXAMPLE, []), True)
        for names in ([0, 1], [2, 1], [0, 2], [1, 1]):
            self.assertIs(is_plan(EXAMPLE, names), False)

    def test_looks_left_out_leave_a_plan(self):
        longest = 0
        for seed in range(60):
            sky = chance_sky(seed)
            for plan in all_plans(sky):
                longest = max(longest, len(plan))
                for length in range(len(plan)):
                    for part in itertools.combinations(plan, length):
                        self.assertTrue(is_plan(sky, list(part)), (sky, plan, part))
        self.assertGreaterEqual(longest, 3)

    def test_the_store_is_never_above_the_capacity(self):
        for seed in range(60):
            sky = chance_sky(seed)
            for plan in all_plans(sky):
                self.assertTrue(all(0 < level <= sky[3] for level in levels(sky, plan)))


class Worths(unittest.TestCase):
    SKY = make_sky([(2, 0, 1, 0, 1), (0, 5, 1, 0, 1), (2, 6, 1, 0, 1), (1, 9, 1, 0, 1)], [5, 0, 99])

    def test_sum_of_the_worths(self):
        self.assertEqual(worth_of(self.SKY, []), 0)
        self.assertEqual([worth_of(self.SKY, [look]) for look in range(4)], [99, 5, 99, 0])
        self.assertEqual(worth_of(self.SKY, [0, 1]), 104)
        self.assertEqual(worth_of(self.SKY, [1, 2, 3]), 104)

    def test_each_wish_counts_once(self):
        self.assertEqual(worth_of(self.SKY, [0, 2]), 99)
        self.assertEqual(worth_of(self.SKY, [1, 1, 1]), 5)
        self.assertEqual(worth_of(self.SKY, [2, 1, 0, 1]), 104)

    def test_wishes_of_the_same_worth_count_each(self):
        self.assertEqual(worth_of(make_sky([(0, 0, 1, 0, 1), (1, 5, 1, 0, 1)], [7, 7]), [0, 1]), 14)

    def test_of_lists_that_are_no_plan(self):
        self.assertEqual(worth_of(EXAMPLE, [0, 1]), 12)
        self.assertEqual(worth_of(EXAMPLE, [1, 0]), 12)

    def test_greatest_worth_of_all(self):
        sky = make_sky([(k, 10 * k, 1, 0, 1) for k in range(6)], [99] * 6)
        self.assertEqual(worth_of(sky, [0, 1, 2, 3, 4, 5]), 594)


class Levels(unittest.TestCase):
    def test_of_no_look(self):
        self.assertEqual(levels(EXAMPLE, []), [])

    def test_without_ears_the_sizes_add_up(self):
        sky = make_sky([(k, 10 * k, 3, 0, k + 1) for k in range(4)], [1] * 4, capacity=10)
        self.assertEqual(levels(sky, [0, 1, 2, 3]), [1, 3, 6, 10])
        self.assertEqual(levels(sky, [1, 3]), [2, 6])

    def test_what_ears_take_while_a_look_lasts_is_gone_at_its_end(self):
        looks = [(0, 0, 1, 0, 5), (1, 2, 4, 0, 1)]
        self.assertEqual(levels(make_sky(looks, ears=[(3, 5, 1)]), [0, 1]), [5, 4])
        self.assertEqual(levels(make_sky(looks, ears=[(5, 9, 2)]), [0, 1]), [5, 4])
        self.assertEqual(levels(make_sky(looks, ears=[(6, 9, 2)]), [0, 1]), [5, 6])
        self.assertEqual(levels(make_sky(looks, ears=[(2, 6, 30)]), [0, 1]), [5, 1])

    def test_an_ear_at_the_end_of_the_look_itself_takes_nothing_of_it(self):
        sky = make_sky([(0, 0, 4, 0, 5)], ears=[(0, 4, 30)])
        self.assertEqual(levels(sky, [0]), [5])

    def test_looks_that_end_behind_the_time_200(self):
        sky = make_sky([(0, 190, 1, 0, 5), (1, 200, 20, 0, 3)], ears=[(191, 200, 1)])
        self.assertEqual(levels(sky, [0, 1]), [5, 3])

    def test_tick_by_tick(self):
        for seed in range(110):
            sky = chance_sky(seed)
            for plan in all_plans(sky):
                self.assertEqual(levels(sky, plan), run_store(sky, plan)[1])


class Arguments(unittest.TestCase):
    def test_nothing_is_changed_and_lists_are_new(self):
        keeps(self, end_of, EXAMPLE, 1)
        keeps(self, turning, EXAMPLE, 0, 1)
        keeps(self, emptied, EXAMPLE, 5, since=1, until=4)
        for names in ([], [1, 2], [0, 1], [2, 2, 0]):
            keeps(self, wrong_in, EXAMPLE, names)
            keeps(self, is_plan, EXAMPLE, names)
            keeps(self, worth_of, EXAMPLE, names)
        for plan in ([], [0], [1, 2]):
            keeps(self, levels, EXAMPLE, plan)

    def test_kinds_of_what_is_told(self):
        self.assertIs(type(wrong_in(EXAMPLE, [0, 1])), tuple)
        self.assertIs(type(levels(EXAMPLE, [1, 2])), list)
        self.assertIs(type(is_plan(EXAMPLE, [])), bool)


if __name__ == "__main__":
    unittest.main()

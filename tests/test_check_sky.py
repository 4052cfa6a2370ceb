"""Points 1, 2, 3 and 9: what is a sky, and which error is due first."""

import itertools
import unittest

from skypasses import errors
from skypasses.errors import BadNumber, BadSize, BadTime, BadWish
from skypasses.skies import check_sky

from tests.helpers import EXAMPLE, chance_sky, keeps, make_sky

NO_NUMBERS = [True, False, None, "1", "", b"1", [1], [], (1,), (), {}, 1.0, 0.5, object()]
LOOK = (0, 3, 2, 10, 4)
EAR = (2, 9, 3)


def with_part(told, at, value):
    return told[:at] + (value,) + told[at + 1:]


class Check(unittest.TestCase):
    def passes(self, sky):
        self.assertIsNone(check_sky(sky))

    def raises(self, due, sky):
        with self.assertRaises(errors.SkyError) as caught:
            check_sky(sky)
        self.assertIs(caught.exception.__class__, due, repr(sky))
        self.assertIsInstance(caught.exception, ValueError)

    def bounds(self, due, make, least, greatest):
        """Both sides of both bounds, far outside, and what is no whole number."""
        for value in (least, least + 1, greatest - 1, greatest):
            self.passes(make(value))
        for value in (least - 1, greatest + 1, -10 ** 20, 10 ** 20):
            self.raises(due, make(value))
        for value in NO_NUMBERS:
            self.raises(due, make(value))


class Skies(Check):
    def test_examples(self):
        self.passes(EXAMPLE)
        self.passes(([(0, 0, 2, 0, 4)], [5], [], 6, 20))

    def test_skies_by_chance(self):
        for seed in range(200):
            self.passes(chance_sky(seed))

    def test_without_looks_and_without_ears(self):
        self.passes(([], [0], [], 1, 1))
        self.passes(([], [99], [EAR], 1, 1))
        self.passes(([LOOK], [99], [], 1, 1))

    def test_all_bounds_reached(self):
        least = [(0, 0, 1, -90, 1)] * 8
        greatest = [(5, 200, 20, 90, 30)] * 8
        ears = [(0, 1, 1), (1, 2, 30), (2, 199, 1), (199, 200, 30)]
        for capacity, turn in itertools.product((1, 30), (1, 90)):
            self.passes((least + greatest, [0, 99, 0, 99, 0, 99], ears, capacity, turn))

    def test_looks_with_the_same_start(self):
        self.passes(make_sky([(0, 5, 1, 0, 1), (1, 5, 2, 0, 1), (0, 5, 1, 0, 1)]))

    def test_looks_may_lie_over_one_another_and_over_the_last_time(self):
        self.passes(make_sky([(0, 0, 20, 0, 30), (0, 1, 20, 0, 30), (1, 200, 20, 0, 30)], capacity=1))

    def test_an_ear_that_begins_where_the_one_ahead_ends(self):
        self.passes(make_sky(ears=[(0, 4, 1), (4, 5, 2), (5, 200, 3)]))
        self.passes(make_sky(ears=[(0, 4, 1), (6, 7, 2)]))


class Sizes(Check):
    def test_worths(self):
        for many in range(1, 7):
            self.passes(([], [1] * many, [], 6, 20))
        for many in (0, 7, 8, 30):
            self.raises(BadSize, ([], [1] * many, [], 6, 20))

    def test_looks(self):
        for many in (0, 1, 15, 16):
            self.passes(make_sky([LOOK] * many))
        for many in (17, 18, 100):
            self.raises(BadSize, make_sky([LOOK] * many))

    def test_ears(self):
        ears = [(k, k + 1, 1) for k in range(20)]
        for many in range(5):
            self.passes(make_sky(ears=ears[:many]))
        for many in (5, 6, 20):
            self.raises(BadSize, make_sky(ears=ears[:many]))


class Numbers(Check):
    def test_worth(self):
        for at in range(3):
            self.bounds(BadNumber, lambda value: ([], [1] * at + [value] + [2], [], 6, 20), 0, 99)

    def look_bounds(self, due, at, least, greatest):
        self.bounds(due, lambda value: make_sky([with_part(LOOK, at, value)]), least, greatest)
        self.bounds(due, lambda value: make_sky([(0, 0, 1, 0, 1), with_part(LOOK, at, value)]), least, greatest)

    def test_wish(self):
        self.look_bounds(BadWish, 0, 0, 1)
        for many in range(2, 7):
            self.bounds(BadWish, lambda value: ([with_part(LOOK, 0, value)], [1] * many, [], 6, 20), 0, many - 1)

    def test_the_only_wish(self):
        self.passes(([(0, 0, 1, 0, 1)], [5], [], 6, 20))
        for wish in (-1, 1):
            self.raises(BadWish, ([(wish, 0, 1, 0, 1)], [5], [], 6, 20))

    def test_start(self):
        self.look_bounds(BadTime, 1, 0, 200)

    def test_length(self):
        self.look_bounds(BadTime, 2, 1, 20)

    def test_angle(self):
        self.look_bounds(BadNumber, 3, -90, 90)

    def test_size(self):
        self.look_bounds(BadNumber, 4, 1, 30)

    def test_starts_do_not_descend(self):
        ahead = (0, 7, 20, 0, 1)
        self.bounds(BadTime, lambda value: make_sky([ahead, with_part(LOOK, 1, value)]), 7, 200)
        self.raises(BadTime, make_sky([ahead, with_part(LOOK, 1, 9), with_part(LOOK, 1, 8)]))
        self.passes(make_sky([ahead, with_part(LOOK, 1, 9), with_part(LOOK, 1, 9)]))

    def test_ear_from(self):
        self.bounds(BadTime, lambda value: make_sky(ears=[with_part(EAR, 0, value)]), 0, 8)

    def test_ear_to(self):
        self.bounds(BadTime, lambda value: make_sky(ears=[with_part(EAR, 1, value)]), 3, 200)

    def test_ear_without_a_tick(self):
        for ear in ((5, 5, 1), (0, 0, 1), (200, 200, 1), (200, 201, 1), (6, 5, 1)):
            self.raises(BadTime, make_sky(ears=[ear]))
        self.passes(make_sky(ears=[(199, 200, 1)]))

    def test_ear_behind_the_one_ahead(self):
        ahead = (1, 5, 1)
        self.bounds(BadTime, lambda value: make_sky(ears=[ahead, (value, 20, 1)]), 5, 19)
        self.raises(BadTime, make_sky(ears=[(10, 12, 1), (3, 5, 1)]))
        self.raises(BadTime, make_sky(ears=[(0, 1, 1), (4, 9, 1), (8, 10, 1)]))

    def test_rate(self):
        self.bounds(BadNumber, lambda value: make_sky(ears=[with_part(EAR, 2, value)]), 1, 30)
        self.bounds(BadNumber, lambda value: make_sky(ears=[(0, 1, 1), with_part(EAR, 2, value)]), 1, 30)

    def test_capacity(self):
        self.bounds(BadNumber, lambda value: make_sky([LOOK], capacity=value), 1, 30)

    def test_turn(self):
        self.bounds(BadNumber, lambda value: make_sky([LOOK], turn=value), 1, 90)


class Order(Check):
    # Each one spoils a sky in one way; the list is in the order of point 9.
    STEPS = [
        (BadSize, "worths", [1] * 7),
        (BadNumber, "worth", -1),
        (BadSize, "looks", [LOOK] * 17),
        (BadWish, "first wish", 9),
        (BadTime, "first start", -1),
        (BadTime, "first length", 0),
        (BadNumber, "first angle", 91),
        (BadNumber, "first size", 0),
        (BadWish, "second wish", None),
        (BadTime, "second start", 201),
        (BadTime, "second length", "x"),
        (BadNumber, "second angle", True),
        (BadNumber, "second size", 31),
        (BadSize, "ears", [EAR] * 5),
        (BadTime, "first from", -1),
        (BadTime, "first to", 201),
        (BadNumber, "first rate", 0),
        (BadTime, "second from", 8),
        (BadTime, "second to", 10),
        (BadNumber, "second rate", []),
        (BadNumber, "capacity", 31),
        (BadNumber, "turn", 91),
    ]

    @staticmethod
    def spoiled(names):
        """The sky with the steps that have these names. More looks or ears are put behind the first two."""
        told = {name: value for _, name, value in Order.STEPS if name in names}

        def part(name, right):
            return told.get(name, right)

        looks = [
            tuple(part(f"first {name}", right) for name, right in
                  [("wish", 0), ("start", 3), ("length", 2), ("angle", 0), ("size", 1)]),
            tuple(part(f"second {name}", right) for name, right in
                  [("wish", 1), ("start", 5), ("length", 2), ("angle", 0), ("size", 1)]),
        ]
        ears = [
            tuple(part(f"first {name}", right) for name, right in [("from", 2), ("to", 9), ("rate", 1)]),
            tuple(part(f"second {name}", right) for name, right in [("from", 10), ("to", 12), ("rate", 1)]),
        ]
        worths = [1, part("worth", 1)] + ([1] * 5 if "worths" in told else [])
        looks = looks + ([LOOK] * 15 if "looks" in told else [])
        ears = ears + ([EAR] * 3 if "ears" in told else [])
        return (looks, worths, ears, part("capacity", 6), part("turn", 20))

    def test_the_sky_that_is_spoiled(self):
        self.passes(self.spoiled([]))

    def test_one_thing_wrong(self):
        for due, name, _ in self.STEPS:
            with self.subTest(name):
                self.raises(due, self.spoiled([name]))

    def test_two_things_wrong(self):
        for (due, name, _), (_, later, _) in itertools.combinations(self.STEPS, 2):
            with self.subTest(name + ", " + later):
                self.raises(due, self.spoiled([name, later]))

    def test_all_from_one_on_wrong(self):
        for at, (due, name, _) in enumerate(self.STEPS):
            with self.subTest(name):
                self.raises(due, self.spoiled([later for _, later, _ in self.STEPS[at:]]))

    def test_no_worths(self):
        self.raises(BadSize, ([("x", "x", "x", "x", "x")] * 17, [], [(None, None, None)], None, None))

    def test_a_later_look_does_not_come_ahead_of_the_first_one(self):
        self.raises(BadNumber, make_sky([(0, 5, 1, 91, 1), (9, 2, 0, 0, 0)]))
        self.raises(BadTime, make_sky([(0, 5, 21, 91, 1), (9, 2, 0, 0, 0)]))

    def test_a_later_ear_does_not_come_ahead_of_the_first_one(self):
        self.raises(BadNumber, make_sky(ears=[(0, 5, 31), (4, 9, 1)]))

    def test_looks_that_are_too_many_and_none_of_them_right(self):
        self.raises(BadSize, make_sky([(None,) * 5] * 17))
        self.raises(BadSize, make_sky(ears=[(None,) * 3] * 5))


class Arguments(unittest.TestCase):
    def test_nothing_is_changed(self):
        keeps(self, check_sky, EXAMPLE)
        looks = [(0, 5, 1, 91, 1)]
        with self.assertRaises(BadNumber):
            check_sky((looks, [5], [], 6, 20))
        self.assertEqual(looks, [(0, 5, 1, 91, 1)])


if __name__ == "__main__":
    unittest.main()

"""Points 10 to 14: satellites on rings, passes, periods, gaps, and the looks that passes make."""

import unittest

from skypasses.rings import greatest_gap, looks_of, passes, period, place_of, seen_by, sees, way
from skypasses.skies import check_sky

from tests.helpers import keeps

RINGS = [3, 4, 5, 7, 12, 30, 59, 60]


def naive_place(ring, satellite, time):
    place = satellite[0]
    for _ in range(time):
        place += satellite[1]
        while place >= ring:
            place -= ring
    return place


def naive_way(ring, first, second):
    """Steps from the first cell in both directions at once."""
    up = down = first
    steps = 0
    while second not in (up, down):
        up = 0 if up == ring - 1 else up + 1
        down = ring - 1 if down == 0 else down - 1
        steps += 1
    return steps


def naive_sees(ring, satellite, cell, time):
    return naive_way(ring, naive_place(ring, satellite, time), cell) <= satellite[2]


def naive_passes(ring, satellite, cell, horizon):
    """All intervals at all of whose times the cell is seen, less those within a greater one."""
    seen = [naive_sees(ring, satellite, cell, time) for time in range(horizon + 1)]
    return [
        (begin, end)
        for begin in range(horizon + 1)
        for end in range(begin, horizon + 1)
        if all(seen[begin:end + 1])
        and (begin == 0 or not seen[begin - 1])
        and (end == horizon or not seen[end + 1])
    ]


def naive_period(ring, fleet):
    for days in range(1, ring ** 2):
        if all(naive_place(ring, one, days) == one[0] for one in fleet):
            return days
    return None


def naive_gap(ring, fleet, cell):
    """Goes on for a long time, and takes the gaps that both begin and end in it."""
    times = 6 * ring
    greatest = gap = 0
    ever = False
    for time in range(times):
        if any(naive_sees(ring, one, cell, time) for one in fleet):
            greatest = max(greatest, gap)
            gap = 0
            ever = True
        else:
            gap += 1
    return greatest if ever else None


class Example(unittest.TestCase):
    def test_examples_of_the_document(self):
        self.assertEqual(passes(12, (0, 1, 1), 4, horizon=20), [(3, 5), (15, 17)])
        self.assertEqual(greatest_gap(12, [(0, 1, 1)], 4), 9)
        self.assertEqual(looks_of(12, (0, 1, 1), [(4, 3, 2)])[:2], [(0, 3, 3, 3, 2), (0, 15, 3, 3, 2)])


class Places(unittest.TestCase):
    def test_at_the_time_0(self):
        for first in range(12):
            self.assertEqual(place_of(12, (first, 5, 0), 0), first)

    def test_round_the_ring(self):
        self.assertEqual([place_of(5, (3, 1, 0), time) for time in range(7)], [3, 4, 0, 1, 2, 3, 4])
        self.assertEqual([place_of(5, (3, 4, 0), time) for time in range(7)], [3, 2, 1, 0, 4, 3, 2])
        self.assertEqual([place_of(12, (1, 0, 9), time) for time in range(3)], [1, 1, 1])

    def test_step_by_step(self):
        for ring in (3, 12, 60):
            for step in range(ring):
                satellite = (ring - 1, step, 4)
                for time in range(0, 40, 3):
                    self.assertEqual(place_of(ring, satellite, time), naive_place(ring, satellite, time))

    def test_times_of_any_size(self):
        # 10 ** 12 is 1 more than a number that 3 and 9 divide, and 4 divides it.
        self.assertEqual(place_of(3, (1, 2, 0), 10 ** 12), 0)
        self.assertEqual(place_of(12, (5, 7, 0), 10 ** 12), (5 + 7 * 4) % 12)
        self.assertEqual(place_of(60, (59, 59, 0), 10 ** 12 + 1), 18)
        self.assertEqual(place_of(7, (6, 3, 0), 7 * 10 ** 40 + 2), 5)
        self.assertEqual(place_of(60, (13, 0, 0), 10 ** 30), 13)


class Ways(unittest.TestCase):
    def test_within_and_across_the_cell_0(self):
        self.assertEqual([way(12, 0, cell) for cell in range(12)], [0, 1, 2, 3, 4, 5, 6, 5, 4, 3, 2, 1])
        self.assertEqual((way(12, 11, 0), way(12, 0, 11)), (1, 1))
        self.assertEqual((way(12, 10, 2), way(12, 2, 10)), (4, 4))
        self.assertEqual((way(60, 59, 29), way(60, 58, 1)), (30, 3))

    def test_of_odd_rings(self):
        self.assertEqual([way(3, 1, cell) for cell in range(3)], [1, 0, 1])
        self.assertEqual([way(7, 5, cell) for cell in range(7)], [2, 3, 3, 2, 1, 0, 1])

    def test_step_by_step(self):
        for ring in RINGS:
            for first in range(ring):
                for second in range(ring):
                    told = way(ring, first, second)
                    self.assertEqual(told, naive_way(ring, first, second))
                    self.assertEqual(told, way(ring, second, first))


class Sees(unittest.TestCase):
    def test_at_the_reach_and_one_beyond(self):
        for reach in range(6):
            satellite = (2, 0, reach)
            for cell in (2 + reach, (2 - reach) % 12):
                self.assertIs(sees(12, satellite, cell, 0), True)
            for cell in (3 + reach, (1 - reach) % 12):
                self.assertIs(sees(12, satellite, cell, 0), False)

    def test_reach_0_sees_the_one_cell(self):
        self.assertEqual([cell for cell in range(5) if sees(5, (4, 3, 0), cell, 2)], [0])

    def test_across_the_cell_0(self):
        self.assertEqual([cell for cell in range(12) if sees(12, (11, 1, 2), cell, 1)], [0, 1, 2, 10, 11])

    def test_reach_that_covers_the_whole_ring(self):
        for ring, reach in [(3, 1), (3, 30), (12, 6), (60, 30), (59, 29)]:
            for time in (0, 1, 17):
                self.assertTrue(all(sees(ring, (1, 2, reach), cell, time) for cell in range(ring)))
        self.assertFalse(sees(60, (0, 0, 29), 30, 0))
        self.assertFalse(sees(12, (0, 0, 5), 6, 0))

    def test_late_times(self):
        self.assertIs(sees(60, (59, 59, 0), 18, 10 ** 12 + 1), True)
        self.assertIs(sees(60, (59, 59, 0), 17, 10 ** 12 + 1), False)


class Passes(unittest.TestCase):
    def test_none(self):
        self.assertEqual(passes(12, (0, 0, 1), 4, horizon=200), [])
        self.assertEqual(passes(12, (0, 2, 0), 5, horizon=200), [])
        self.assertEqual(passes(12, (0, 1, 1), 4, horizon=2), [])

    def test_one_from_0_to_the_horizon(self):
        for horizon in (0, 1, 20, 200):
            self.assertEqual(passes(12, (3, 0, 1), 4, horizon=horizon), [(0, horizon)])
            self.assertEqual(passes(12, (0, 5, 6), 4, horizon=horizon), [(0, horizon)])

    def test_one_that_begins_at_0(self):
        self.assertEqual(passes(12, (4, 1, 1), 4, horizon=20), [(0, 1), (11, 13)])

    def test_one_that_is_cut_off_by_the_horizon(self):
        told = [passes(12, (0, 1, 1), 4, horizon=horizon) for horizon in (3, 4, 5, 6, 15)]
        self.assertEqual(told, [[(3, 3)], [(3, 4)], [(3, 5)], [(3, 5)], [(3, 5), (15, 15)]])

    def test_the_horizon_0(self):
        self.assertEqual(passes(12, (4, 1, 0), 4, horizon=0), [(0, 0)])
        self.assertEqual(passes(12, (4, 1, 0), 5, horizon=0), [])

    def test_passes_of_one_time(self):
        self.assertEqual(passes(5, (0, 2, 0), 4, horizon=13), [(2, 2), (7, 7), (12, 12)])

    def test_up_to_the_horizon_200(self):
        self.assertEqual(passes(60, (0, 1, 2), 20, horizon=200), [(18, 22), (78, 82), (138, 142), (198, 200)])

    def test_all_intervals(self):
        for ring in (3, 5, 12):
            for step in range(ring):
                for reach in (0, 1, 2):
                    satellite = (1, step, reach)
                    for cell in range(ring):
                        told = passes(ring, satellite, cell, horizon=14)
                        self.assertEqual(told, naive_passes(ring, satellite, cell, 14))

    def test_the_horizon_is_passed_by_name(self):
        with self.assertRaises(TypeError):
            passes(12, (0, 1, 1), 4, 20)


class Periods(unittest.TestCase):
    def test_step_0(self):
        self.assertEqual(period(12, [(5, 0, 3)]), 1)
        self.assertEqual(period(12, [(5, 0, 3), (1, 0, 0)]), 1)

    def test_one_satellite(self):
        told = [period(12, [(0, step, 0)]) for step in range(12)]
        self.assertEqual(told, [1, 12, 6, 4, 3, 12, 2, 12, 3, 4, 6, 12])
        self.assertEqual([period(7, [(3, step, 0)]) for step in range(7)], [1, 7, 7, 7, 7, 7, 7])

    def test_several_satellites(self):
        self.assertEqual(period(12, [(0, 4, 0), (0, 3, 0)]), 12)
        self.assertEqual(period(12, [(0, 6, 0), (0, 4, 0)]), 6)
        self.assertEqual(period(12, [(0, 6, 0), (0, 3, 0)]), 4)
        self.assertEqual(period(60, [(0, 30, 0), (1, 20, 0), (2, 12, 0), (3, 15, 0)]), 60)
        self.assertEqual(period(60, [(0, 30, 0), (1, 20, 0), (2, 12, 0), (3, 0, 0)]), 30)

    def test_the_first_cell_and_the_reach_do_not_matter(self):
        for first in range(12):
            self.assertEqual(period(12, [(first, 8, first)]), 3)

    def test_least_number_of_ticks(self):
        for ring in (3, 4, 5, 12):
            for one in range(ring):
                for other in range(ring):
                    fleet = [(1, one, 0), (2, other, 3)]
                    self.assertEqual(period(ring, fleet), naive_period(ring, fleet))

    def test_what_is_seen_is_seen_a_period_later(self):
        fleet = [(0, 4, 1), (5, 3, 0)]
        days = period(12, fleet)
        for one in fleet:
            for cell in range(12):
                for time in range(20):
                    self.assertIs(sees(12, one, cell, time), sees(12, one, cell, time + days))


class Gaps(unittest.TestCase):
    def test_always_seen(self):
        self.assertEqual(greatest_gap(12, [(4, 0, 0)], 4), 0)
        self.assertEqual(greatest_gap(12, [(0, 5, 6)], 4), 0)

    def test_always_seen_by_turns(self):
        self.assertEqual(greatest_gap(4, [(0, 2, 0), (2, 2, 0)], 0), 0)
        self.assertEqual(greatest_gap(4, [(0, 2, 0), (2, 2, 0)], 2), 0)

    def test_never_seen(self):
        self.assertIsNone(greatest_gap(12, [(0, 0, 3)], 4))
        self.assertIsNone(greatest_gap(12, [(0, 2, 0)], 5))
        self.assertIsNone(greatest_gap(12, [(0, 2, 0), (1, 4, 0)], 3))

    def test_gap_across_the_end_of_a_period(self):
        # Seen at 3, 4 and 5 of each 12 times: 3 times are ahead of it, 6 behind.
        self.assertEqual(greatest_gap(12, [(0, 1, 1)], 4), 9)
        self.assertEqual(greatest_gap(12, [(0, 1, 0)], 6), 11)
        self.assertEqual(greatest_gap(5, [(0, 2, 0)], 4), 4)

    def test_gap_within_a_period(self):
        self.assertEqual(greatest_gap(12, [(0, 1, 1)], 0), 9)
        self.assertEqual(greatest_gap(12, [(0, 1, 0)], 0), 11)
        self.assertEqual(greatest_gap(12, [(0, 1, 0)], 11), 11)

    def test_the_greatest_one_of_several(self):
        self.assertEqual(greatest_gap(12, [(0, 1, 0), (4, 1, 0)], 0), 7)
        self.assertEqual(greatest_gap(12, [(0, 1, 0), (6, 1, 0)], 3), 5)
        self.assertEqual(greatest_gap(12, [(0, 1, 0), (3, 1, 0), (7, 1, 0), (8, 1, 0)], 9), 3)

    def test_going_on_for_a_long_time(self):
        for ring in (3, 4, 6, 9):
            for one in range(ring):
                for other in range(ring):
                    for fleet in ([(0, one, 0), (1, other, 1)], [(0, one, 0), (1, other, 0)]):
                        for cell in range(ring):
                            told = greatest_gap(ring, fleet, cell)
                            self.assertEqual(told, naive_gap(ring, fleet, cell), (ring, fleet, cell))


class Seen(unittest.TestCase):
    def test_the_horizon_0(self):
        self.assertEqual(seen_by(12, [(0, 1, 1)], horizon=0), [0, 1, 11])
        self.assertEqual(seen_by(12, [(5, 3, 0)], horizon=0), [5])

    def test_the_time_of_the_horizon_counts(self):
        self.assertEqual(seen_by(12, [(0, 2, 0)], horizon=2), [0, 2, 4])
        self.assertEqual(seen_by(12, [(0, 2, 0)], horizon=3), [0, 2, 4, 6])

    def test_several_satellites(self):
        self.assertEqual(seen_by(12, [(0, 4, 0), (1, 6, 0)], horizon=200), [0, 1, 4, 7, 8])
        self.assertEqual(seen_by(12, [(9, 0, 1), (9, 0, 0), (3, 0, 1)], horizon=5), [2, 3, 4, 8, 9, 10])

    def test_the_whole_ring(self):
        self.assertEqual(seen_by(60, [(7, 1, 0)], horizon=59), list(range(60)))
        self.assertEqual(seen_by(60, [(7, 1, 0)], horizon=58), [cell for cell in range(60) if cell != 6])
        self.assertEqual(seen_by(60, [(7, 0, 30)], horizon=0), list(range(60)))

    def test_by_passes(self):
        for step in range(9):
            fleet = [(0, step, 1), (4, 3, 0)]
            for horizon in range(10):
                wanted = [
                    cell for cell in range(9)
                    if any(naive_passes(9, one, cell, horizon) for one in fleet)
                ]
                self.assertEqual(seen_by(9, fleet, horizon=horizon), wanted)

    def test_the_horizon_is_passed_by_name(self):
        with self.assertRaises(TypeError):
            seen_by(12, [(0, 1, 1)], 20)


class Looks(unittest.TestCase):
    def starts(self, ring, satellite, wish):
        return [look[1] for look in looks_of(ring, satellite, [wish])]

    def test_no_wish_and_no_pass(self):
        self.assertEqual(looks_of(12, (0, 1, 1), []), [])
        self.assertEqual(looks_of(12, (0, 0, 1), [(4, 1, 1)]), [])

    def test_parts_of_a_look(self):
        told = looks_of(60, (0, 1, 2), [(0, 1, 9), (20, 5, 7)])
        self.assertEqual(told[:3], [(0, 0, 1, 0, 9), (1, 18, 5, 6, 7), (0, 58, 1, 6, 9)])

    def test_pass_that_is_just_long_enough_and_one_that_is_too_short(self):
        # The passes of the cell 4 are 3 times long.
        self.assertEqual(self.starts(60, (0, 1, 1), (4, 2, 1)), [3, 63, 123, 183])
        self.assertEqual(self.starts(60, (0, 1, 1), (4, 3, 1)), [3, 63, 123, 183])
        self.assertEqual(self.starts(60, (0, 1, 1), (4, 4, 1)), [])
        # The first pass of the cell 0 is 2 times long.
        self.assertEqual(self.starts(60, (0, 1, 1), (0, 2, 1)), [0, 59, 119, 179])
        self.assertEqual(self.starts(60, (0, 1, 1), (0, 3, 1)), [59, 119, 179])

    def test_passes_at_the_horizon(self):
        # The last pass of the cell 20 is cut off: (198, 200).
        satellite = (0, 1, 2)
        self.assertEqual(self.starts(60, satellite, (20, 1, 1)), [18, 78, 138, 198])
        self.assertEqual(self.starts(60, satellite, (20, 2, 1)), [18, 78, 138, 198])
        self.assertEqual(self.starts(60, satellite, (20, 3, 1)), [18, 78, 138])

    def test_start_at_200_less_the_length_and_a_tick_later(self):
        for length in (1, 2, 7, 20):
            begin = 200 - length
            # Over the cell from `begin` on: it goes up, with the cell at the edge of its reach.
            first = (29 - begin) % 60
            self.assertEqual(self.starts(60, (first, 1, 10), (39, length, 1))[-1], begin)
            self.assertEqual(self.starts(60, (first, 1, 10), (40, length, 1))[-1], begin - 59)

    def test_a_look_at_the_time_200_is_never_made(self):
        self.assertEqual(passes(60, (40, 1, 0), 0, horizon=200), [(20, 20), (80, 80), (140, 140), (200, 200)])
        self.assertEqual(self.starts(60, (40, 1, 0), (0, 1, 1)), [20, 80, 140])

    def test_angles_up_and_down(self):
        self.assertEqual(looks_of(60, (0, 0, 30), [(0, 1, 1)]), [(0, 0, 1, 0, 1)])
        for steps in range(1, 30):
            self.assertEqual(looks_of(60, (0, 0, 30), [(steps, 1, 1)]), [(0, 0, 1, 3 * steps, 1)])
            self.assertEqual(looks_of(60, (0, 0, 30), [(60 - steps, 1, 1)]), [(0, 0, 1, -3 * steps, 1)])

    def test_angles_across_the_cell_0(self):
        self.assertEqual(looks_of(12, (10, 0, 5), [(1, 1, 1)]), [(0, 0, 1, 9, 1)])
        self.assertEqual(looks_of(12, (1, 0, 5), [(10, 1, 1)]), [(0, 0, 1, -9, 1)])

    def test_both_ways_equally_long(self):
        self.assertEqual(looks_of(60, (0, 0, 30), [(30, 1, 1)]), [(0, 0, 1, 90, 1)])
        self.assertEqual(looks_of(60, (45, 0, 30), [(15, 1, 1)]), [(0, 0, 1, 90, 1)])
        self.assertEqual(looks_of(4, (3, 0, 2), [(1, 1, 1)]), [(0, 0, 1, 6, 1)])

    def test_on_an_odd_ring(self):
        told = [looks_of(5, (2, 0, 2), [(cell, 1, 1)])[0][3] for cell in range(5)]
        self.assertEqual(told, [-6, -3, 0, 3, 6])

    def test_the_angle_is_that_at_the_start(self):
        # The satellite that goes down comes to the cell from above.
        self.assertEqual(looks_of(12, (0, 11, 1), [(4, 3, 2)])[0], (0, 7, 3, -3, 2))
        self.assertEqual(looks_of(12, (4, 1, 1), [(4, 2, 2)])[:2], [(0, 0, 2, 0, 2), (0, 11, 2, 3, 2)])

    def test_several_wishes_in_order(self):
        told = looks_of(60, (0, 1, 1), [(9, 2, 3), (5, 1, 4), (9, 3, 5), (5, 4, 6)])
        wanted = []
        for turn in range(4):
            start = 60 * turn
            wanted += [(1, start + 4, 1, 3, 4), (0, start + 8, 2, 3, 3), (2, start + 8, 3, 3, 5)]
        self.assertEqual(told, wanted)

    def test_wishes_count_and_not_angles_or_lengths_where_starts_are_the_same(self):
        told = looks_of(12, (0, 0, 5), [(3, 9, 9), (1, 8, 8), (10, 7, 7), (0, 1, 1)])
        self.assertEqual(told, [(0, 0, 9, 9, 9), (1, 0, 8, 3, 8), (2, 0, 7, -6, 7), (3, 0, 1, 0, 1)])

    def test_more_than_16_looks(self):
        self.assertEqual(len(looks_of(3, (0, 1, 0), [(0, 1, 1), (1, 1, 1)])), 134)

    def test_looks_by_the_words_of_the_point(self):
        wishes = [(0, 1, 5), (4, 2, 6), (7, 3, 7), (4, 1, 8)]
        for step in range(12):
            for reach in range(7):
                satellite = (9, step, reach)
                wanted = []
                for wish, (cell, length, size) in enumerate(wishes):
                    for begin, end in passes(12, satellite, cell, horizon=200):
                        if end - begin + 1 < length or begin > 200 - length:
                            continue
                        place = place_of(12, satellite, begin)
                        steps = naive_way(12, place, cell)
                        up = (place + steps) % 12 == cell
                        wanted.append((begin, wish, (wish, begin, length, 3 * steps if up else -3 * steps, size)))
                wanted.sort()
                self.assertEqual(looks_of(12, satellite, wishes), [look for _, _, look in wanted])

    def test_they_are_looks_of_a_sky(self):
        for step in (1, 7, 29):
            looks = looks_of(60, (11, step, 30), [(0, 20, 30), (30, 1, 1), (59, 7, 4)])
            self.assertTrue(looks)
            self.assertIsNone(check_sky((looks[:16], [1, 1, 1], [], 30, 90)))


class Arguments(unittest.TestCase):
    def test_nothing_is_changed_and_lists_are_new(self):
        fleet = [(0, 1, 1), (5, 7, 0)]
        keeps(self, place_of, 12, (0, 1, 1), 30)
        keeps(self, way, 12, 3, 11)
        keeps(self, sees, 12, (0, 1, 1), 4, 3)
        keeps(self, passes, 12, (0, 1, 1), 4, horizon=20)
        keeps(self, period, 12, fleet)
        keeps(self, greatest_gap, 12, fleet, 4)
        keeps(self, seen_by, 12, fleet, horizon=1)
        keeps(self, looks_of, 12, (0, 1, 1), [(4, 3, 2), (4, 1, 1)])

    def test_kinds_of_what_is_told(self):
        self.assertIs(type(passes(12, (0, 1, 1), 4, horizon=20)[0]), tuple)
        self.assertIs(type(looks_of(12, (0, 1, 1), [(4, 3, 2)])[0]), tuple)
        self.assertIs(type(sees(12, (0, 1, 1), 4, 3)), bool)


if __name__ == "__main__":
    unittest.main()

"""Points 50 to 59: promises, plans that go on, late wishes and their answers."""

import itertools
import random
import unittest

from skypasses.best import best_plan, best_worth
from skypasses.errors import BadNumber, BadSize, BadTime
from skypasses.late import (
    answer_late, best_keeping, can_keep, clash_of, forced_looks, go_through, last_call, loss_of, open_looks, plans_on,
    with_late,
)

from tests.helpers import (
    EXAMPLE, chance_sky, keeps, large_sky, make_sky, naive_best, naive_clash, naive_keeping, naive_late, naive_on,
    naive_worth, plans_once, small_worths, wishes_in,
)

SKY = ([(0, 0, 4, 0, 1), (1, 2, 4, 0, 1), (1, 8, 1, 0, 1)], [5, 7], [], 6, 20)


def some_skies(seeds):
    for seed in seeds:
        sky = chance_sky(seed)
        sky = (sky[0][:6], *sky[1:])
        yield seed, (small_worths(sky, seed) if seed % 2 else sky)


def moments(sky, chance, count):
    """Some times with plans of looks that all start ahead of them; the time 0 without any is among them."""
    found = [(0, [])]
    for _ in range(count):
        now = chance.choice([0, 1, 200] + [look[1] + by for look in sky[0] for by in (0, 1)])
        plan = chance.choice(plans_once(sky))
        found.append((now, [name for name in plan if sky[0][name][1] < now]))
    return found


def every_set(sky):
    names = range(len(sky[1]))
    return [list(part) for k in range(len(names) + 1) for part in itertools.combinations(names, k)]


class Examples(unittest.TestCase):
    def test_examples_of_the_document(self):
        self.assertEqual(
            (best_keeping(SKY, []), best_keeping(SKY, [0]), clash_of(SKY, [0], 1, now=1, begun=[0])),
            ((12, [0, 2]), (12, [0, 2]), None),
        )
        self.assertEqual(answer_late(SKY, [0, 1], 9, [(8, 2, 40, 1)], now=5, begun=[0]), ("refused", [1]))

    def test_the_same_wish_without_the_promise(self):
        told = answer_late(SKY, [0], 9, [(8, 2, 40, 1)], now=5, begun=[0])
        later = (SKY[0] + [(2, 8, 2, 40, 1)], [5, 7, 9], [], 6, 20)
        self.assertEqual(told, ("accepted", later, [0, 2], [0, 3]))


class PlansOn(unittest.TestCase):
    def test_all_plans_at_the_time_0(self):
        self.assertEqual(plans_on(SKY), [[], [0], [0, 2], [1], [2]])
        for seed, sky in some_skies(range(40)):
            self.assertEqual(plans_on(sky), plans_once(sky))
            self.assertEqual(plans_on(sky, now=0, begun=[]), plans_once(sky))

    def test_begun_looks_as_a_list_and_as_a_tuple(self):
        for begun in ([0], (0,)):
            self.assertEqual(plans_on(SKY, now=1, begun=begun), [[0], [0, 2]])
            self.assertEqual(best_keeping(SKY, [], now=1, begun=begun), (12, [0, 2]))
            self.assertIs(can_keep(SKY, [1], now=9, begun=begun), False)
        for plan in plans_on(SKY, now=1, begun=(0,)):
            self.assertIsInstance(plan, list)

    def test_a_look_that_starts_just_at_now(self):
        self.assertEqual(plans_on(SKY, now=2), [[], [1], [2]])
        self.assertEqual(plans_on(SKY, now=3), [[], [2]])
        self.assertEqual(plans_on(SKY, now=8), [[], [2]])
        self.assertEqual(plans_on(SKY, now=9), [[]])
        self.assertEqual(plans_on(SKY, now=8, begun=[0]), [[0], [0, 2]])
        self.assertEqual(plans_on(SKY, now=9, begun=[0, 2]), [[0, 2]])

    def test_by_the_words(self):
        chance = random.Random(51)
        for seed, sky in some_skies(range(100)):
            for now, begun in moments(sky, chance, 6):
                self.assertEqual(plans_on(sky, now=now, begun=begun), naive_on(sky, now, begun))
                self.assertEqual(plans_on(sky, now=now, begun=tuple(begun)), naive_on(sky, now, begun))

    def test_a_sky_without_looks_and_the_last_time(self):
        self.assertEqual(plans_on(make_sky()), [[]])
        self.assertEqual(plans_on(make_sky(), now=200), [[]])
        sky = make_sky([(0, 200, 20, 0, 1)])
        self.assertEqual(plans_on(sky, now=200), [[], [0]])


class Keeping(unittest.TestCase):
    def test_by_the_words(self):
        chance = random.Random(52)
        for seed, sky in some_skies(range(60)):
            for now, begun in moments(sky, chance, 3):
                alone = best_keeping(sky, [], now=now, begun=begun)[0]
                for promises in every_set(sky):
                    told = {"now": now, "begun": chance.choice([begun, tuple(begun)])}
                    plans = naive_keeping(sky, promises, now, begun)
                    best = naive_best(sky, promises, now, begun)
                    self.assertIs(can_keep(sky, promises, **told), best is not None)
                    self.assertEqual(best_keeping(sky, promises, **told), best)
                    self.assertEqual(loss_of(sky, promises, **told), None if best is None else alone - best[0])
                    if best is None:
                        continue
                    some = sorted({name for plan in plans for name in plan})
                    every = [name for name in some if all(name in plan for plan in plans)]
                    self.assertEqual(open_looks(sky, promises, **told), some)
                    self.assertEqual(forced_looks(sky, promises, **told), every)
                    for wish in range(len(sky[1])):
                        mine = [name for name in some if sky[0][name][0] == wish]
                        self.assertEqual(last_call(sky, promises, wish, **told), mine[-1] if mine else None)
                        if wish not in promises:
                            clash = naive_clash(sky, promises, wish, now, begun)
                            self.assertEqual(clash_of(sky, promises, wish, **told), clash)

    def test_without_promises_it_is_the_first_best_plan(self):
        for seed, sky in some_skies(range(60)):
            self.assertEqual(best_keeping(sky, []), (best_worth(sky), best_plan(sky)))
            self.assertEqual(loss_of(sky, []), 0)

    def test_the_first_of_several_best_plans(self):
        sky = make_sky([(0, 0, 2, 0, 1), (1, 0, 2, 0, 1), (2, 5, 1, 0, 1)], worths=[5, 5, 0])
        self.assertEqual(best_keeping(sky, []), (5, [0]))
        self.assertEqual(best_keeping(sky, [2]), (5, [0, 2]))
        self.assertEqual(best_keeping(sky, [1]), (5, [1]))
        self.assertEqual((loss_of(sky, [1]), loss_of(sky, [0, 1])), (0, None))

    def test_keywords_may_be_left_out(self):
        self.assertIs(can_keep(SKY, [0, 1]), True)
        self.assertIs(can_keep(SKY, [0, 1], now=9), False)
        self.assertEqual(loss_of(SKY, [0]), 0)
        self.assertEqual(forced_looks(SKY, [0, 1]), [0, 2])
        self.assertEqual(open_looks(SKY, []), [0, 1, 2])
        self.assertEqual(open_looks(SKY, [], begun=[0], now=1), [0, 2])
        self.assertEqual((last_call(SKY, [], 0), last_call(SKY, [], 1), last_call(SKY, [], 0, now=1)), (0, 2, None))
        self.assertEqual(answer_late(SKY, [], 1, [(0, 1, 0, 1)])[0], "accepted")

    def test_a_wish_that_no_look_is_for(self):
        sky = make_sky([(0, 0, 1, 0, 1)])
        self.assertIs(can_keep(sky, [1]), False)
        self.assertIsNone(best_keeping(sky, [1]))
        self.assertIsNone(loss_of(sky, [1]))
        self.assertEqual(clash_of(sky, [0], 1), [])
        self.assertIsNone(last_call(sky, [0], 1))
        self.assertEqual(forced_looks(sky, []), [])

    def test_more_promises_never_bring_more(self):
        for seed, sky in some_skies(range(60)):
            worths = {tuple(part): best_keeping(sky, part) for part in every_set(sky)}
            for part in worths:
                for other in worths:
                    if set(part) <= set(other) and worths[other] is not None:
                        self.assertLessEqual(worths[other][0], worths[part][0])


class Clashes(unittest.TestCase):
    def test_the_fewest_promises_and_of_these_the_first(self):
        # The wish 3 goes with each two of 0, 1, 2, and with none of 4, 5; the store has room for three of size 2.
        looks = [(0, 0, 1, 0, 2), (1, 5, 1, 0, 2), (2, 10, 1, 0, 2), (3, 15, 1, 0, 2)]
        sky = make_sky(looks, worths=[1, 1, 1, 1])
        self.assertEqual(clash_of(sky, [0, 1, 2], 3), [0, 1, 2])
        self.assertIsNone(clash_of(sky, [0, 1], 3))
        tight = (*sky[:3], 4, 20)
        self.assertEqual(clash_of(tight, [1, 2], 3), [1, 2])
        self.assertEqual(clash_of(make_sky(looks, worths=[1] * 4, capacity=2), [2], 3), [2])

    def test_a_clash_of_one_comes_ahead_of_clashes_of_two(self):
        looks = [(0, 0, 1, 0, 2), (1, 5, 1, 0, 2), (2, 10, 5, 0, 1), (3, 14, 1, 0, 2), (4, 14, 1, 0, 2)]
        sky = make_sky(looks, worths=[1] * 5, capacity=5)
        self.assertIs(can_keep(sky, [0, 1, 2]), True)
        self.assertEqual(clash_of(sky, [0, 1, 2], 3), [2])
        self.assertEqual(clash_of(sky, [0, 1], 3), [0, 1])
        self.assertEqual(clash_of(sky, [3], 4), [3])

    def test_what_has_begun_counts(self):
        self.assertIsNone(clash_of(SKY, [0], 1))
        self.assertIsNone(clash_of(SKY, [0], 1, now=8, begun=[0]))
        self.assertEqual(clash_of(SKY, [0], 1, now=9, begun=[0]), [])
        self.assertEqual(clash_of(SKY, [], 0, now=3, begun=[1]), [])


class WithLate(unittest.TestCase):
    def test_new_looks_stand_behind_old_ones_with_the_same_start(self):
        sky = make_sky([(0, 3, 1, 0, 1), (1, 3, 2, 0, 1), (0, 5, 1, 0, 1)], ears=[(0, 2, 1)])
        late = [(5, 1, 9, 2), (3, 1, 8, 2), (5, 2, 7, 2), (4, 1, 6, 2), (3, 2, 5, 2), (9, 1, 4, 2)]
        told = with_late(sky, 8, late, now=3)
        looks = [
            (0, 3, 1, 0, 1), (1, 3, 2, 0, 1), (2, 3, 1, 8, 2), (2, 3, 2, 5, 2), (2, 4, 1, 6, 2), (0, 5, 1, 0, 1),
            (2, 5, 1, 9, 2), (2, 5, 2, 7, 2), (2, 9, 1, 4, 2),
        ]
        self.assertEqual(told, (looks, [5, 7, 8], [(0, 2, 1)], 6, 20))

    def test_a_wish_without_looks(self):
        self.assertEqual(with_late(EXAMPLE, 0, [], now=0), (EXAMPLE[0], [5, 7, 0], *EXAMPLE[2:]))
        self.assertEqual(answer_late(EXAMPLE, [0], 9, []), ("refused", []))

    def test_lists_are_new(self):
        told = with_late(EXAMPLE, 0, [], now=0)
        for part in (0, 1, 2):
            self.assertIsNot(told[part], EXAMPLE[part])

    def test_looks_that_start_ahead_of_now(self):
        self.assertEqual(with_late(SKY, 1, [(5, 1, 0, 1)], now=5)[0][2], (2, 5, 1, 0, 1))
        for late in ([(4, 1, 0, 1)], [(5, 1, 0, 1), (4, 1, 0, 1)], [(9, 1, 0, 1), (-1, 1, 0, 1), (9, 1, 0, 1)]):
            with self.assertRaises(BadTime):
                with_late(SKY, 1, late, now=5)
        with self.assertRaises(BadTime):
            with_late(SKY, 1, [(-1, 1, 0, 1)], now=0)

    def test_the_start_is_looked_at_ahead_of_all_else(self):
        full = make_sky(worths=[1] * 6)
        for sky, worth in ((full, 1), (SKY, 100), (SKY, -1), (full, 100)):
            with self.assertRaises(BadTime):
                with_late(sky, worth, [(9, 0, 99, 99), (4, 1, 0, 1)], now=5)

    def test_what_the_check_of_the_sky_raises(self):
        full = make_sky(worths=[1] * 6)
        many = make_sky([(0, k, 1, 0, 1) for k in range(15)])
        late = [(20, 1, 0, 1)]
        cases = [
            (full, 1, late, BadSize), (full, 100, late, BadSize), (SKY, 100, late, BadNumber),
            (SKY, -1, [(201, 1, 0, 1)], BadNumber), (many, 1, late * 2, BadSize), (many, 100, late * 2, BadNumber),
            (many, 1, [(20, 0, 0, 1)] * 2, BadSize),
            (SKY, 1, [(201, 1, 0, 1)], BadTime), (SKY, 1, [(200, 0, 0, 1)], BadTime),
            (SKY, 1, [(9, 21, 0, 1)], BadTime),
            (SKY, 1, [(9, 1, 91, 1)], BadNumber), (SKY, 1, [(9, 1, -91, 1)], BadNumber),
            (SKY, 1, [(9, 1, 0, 0)], BadNumber), (SKY, 1, [(9, 1, 0, 31)], BadNumber),
            # The first look in order is looked at first, not the first one that was handed in.
            (SKY, 1, [(10, 21, 0, 1), (9, 1, 91, 1)], BadNumber), (SKY, 1, [(10, 1, 91, 1), (9, 21, 0, 1)], BadTime),
        ]
        for sky, worth, looks, error in cases:
            with self.subTest(worth=worth, looks=looks):
                with self.assertRaises(error):
                    with_late(sky, worth, looks, now=5)
                with self.assertRaises(error):
                    answer_late(sky, [], worth, looks, now=5)
                with self.assertRaises(error):
                    go_through(sky, [], [(5, worth, looks)])

    def test_up_to_the_limits(self):
        sky = make_sky([(0, k, 1, 0, 1) for k in range(15)], worths=[1] * 5)
        told = with_late(sky, 99, [(200, 20, -90, 30)], now=200)
        self.assertEqual((len(told[0]), len(told[1])), (16, 6))
        self.assertEqual(told[0][-1], (5, 200, 20, -90, 30))

    def test_by_the_words(self):
        chance = random.Random(56)
        for seed, sky in some_skies(range(80)):
            sky = (sky[0], sky[1][:5], *sky[2:])
            sky = ([(look[0] % len(sky[1]), *look[1:]) for look in sky[0]], *sky[1:])
            now = chance.randint(0, 30)
            looks = [(now + chance.randint(0, 12), chance.randint(1, 5), 0, 1) for _ in range(chance.randint(0, 6))]
            self.assertEqual(with_late(sky, 4, looks, now=now), naive_late(sky, 4, looks))


class AnswerLate(unittest.TestCase):
    def test_accepted_and_refused(self):
        self.assertEqual(
            answer_late(SKY, [], 9, [(0, 2, 0, 1)]),
            ("accepted", ([SKY[0][0], (2, 0, 2, 0, 1), *SKY[0][1:]], [5, 7, 9], [], 6, 20), [2], [1, 2]),
        )
        self.assertEqual(answer_late(SKY, [0], 9, [(0, 2, 0, 1)]), ("refused", [0]))
        self.assertEqual(answer_late(SKY, [], 9, [(4, 2, 90, 1)], now=3, begun=(1,)), ("refused", []))
        self.assertEqual(answer_late(SKY, [1], 9, [(8, 1, 0, 1)], now=3, begun=[]), ("refused", [1]))

    def test_an_accepted_wish_is_looked_at_whatever_it_costs(self):
        told = answer_late(SKY, [], 0, [(0, 20, 0, 1)])
        self.assertEqual(told[0], "accepted")
        self.assertEqual((told[2], told[3]), ([2], [1]))

    def test_by_the_words(self):
        chance = random.Random(57)
        answers = {}
        for seed, sky in some_skies(range(140)):
            if len(sky[1]) == 6:
                continue
            now, begun = chance.choice(moments(sky, chance, 3))
            able = [part for part in every_set(sky) if naive_keeping(sky, part, now, begun)]
            promises = chance.choice(able)
            late = [(now + chance.randint(0, 20), chance.randint(1, 4), chance.randint(-90, 90), chance.randint(1, 9))
                    for _ in range(chance.randint(0, 2))]
            late = [look for look in late if look[0] <= 200]
            later = naive_late(sky, chance.randint(0, 9), late)
            wish = len(sky[1])
            clash = naive_clash(later, promises, wish, now, begun)
            told = ("refused", clash)
            if clash is None:
                best = naive_best(later, promises + [wish], now, begun)
                told = ("accepted", later, promises + [wish], best[1])
            given = answer_late(sky, promises, later[1][-1], late, now=now, begun=begun)
            self.assertEqual(given, told)
            answers[given[0]] = answers.get(given[0], 0) + 1
        self.assertGreater(min(answers.values()), 20)


def naive_go_through(sky, promises, arrivals):
    """Goes by the words of points 57 and 58."""
    plan = naive_best(sky, promises)[1]
    promises = list(promises)
    answers = []
    for now, worth, looks in arrivals:
        begun = [name for name in plan if sky[0][name][1] < now]
        later = naive_late(sky, worth, looks)
        wish = len(sky[1])
        clash = naive_clash(later, promises, wish, now, begun)
        answers.append(clash)
        if clash is None:
            sky = later
            promises = promises + [wish]
            plan = naive_best(sky, promises, now, begun)[1]
    return (answers, sky, promises, plan)


class GoThrough(unittest.TestCase):
    def test_no_arrivals(self):
        told = go_through(SKY, [0], [])
        self.assertEqual(told, ([], SKY, [0], [0, 2]))
        for part in (0, 1, 2):
            self.assertIsNot(told[1][part], SKY[part])

    def test_one_after_the_other(self):
        arrivals = [(1, 9, [(8, 2, 40, 1)]), (1, 50, [(8, 1, 0, 1)]), (9, 1, [(20, 1, 0, 1)]), (30, 1, [(31, 2, 0, 1)])]
        later = (
            SKY[0] + [(2, 8, 2, 40, 1), (3, 20, 1, 0, 1), (4, 31, 2, 0, 1)], [5, 7, 9, 1, 1], [], 6, 20,
        )
        self.assertEqual(
            go_through(SKY, [0], arrivals), ([None, [2], None, None], later, [0, 2, 3, 4], [0, 3, 4, 5])
        )
        arrivals = [(5, 9, [(8, 2, 40, 1)]), (5, 1, [(12, 1, 0, 1)])]
        answers, sky, promises, plan = go_through(SKY, [0, 1], arrivals)
        self.assertEqual((answers, promises, plan), ([[1], None], [0, 1, 2], [0, 2, 3]))
        self.assertEqual(sky, (SKY[0] + [(2, 12, 1, 0, 1)], [5, 7, 1], [], 6, 20))

    def test_a_look_that_starts_just_at_the_time_has_not_begun(self):
        late = [(0, 3, 0, 1)]
        self.assertEqual(go_through(SKY, [], [(0, 9, late)])[3], [1, 3])
        self.assertEqual(go_through(SKY, [1], [(0, 9, late)])[0], [None])
        self.assertEqual(go_through(SKY, [], [(8, 9, [(8, 1, 0, 1)])])[0], [None])
        self.assertEqual(go_through(SKY, [], [(9, 9, [(9, 1, 0, 1)])])[3], [0, 2, 3])
        self.assertEqual(go_through(SKY, [], [(9, 9, [(9, 1, 90, 1)])])[0], [[]])

    def test_the_first_error(self):
        arrivals = [(5, 9, [(8, 2, 40, 1)]), (6, 100, []), (7, 9, [(6, 1, 0, 1)])]
        with self.assertRaises(BadNumber):
            go_through(SKY, [], arrivals)
        with self.assertRaises(BadTime):
            go_through(SKY, [], arrivals[:1] + arrivals[2:])
        # A refused wish is not in the sky, so it does not count up to the greatest number of wishes.
        refused = (9, 1, [(8, 1, 0, 1)])
        taken = [(0, 1, [(20 + k, 1, 0, 1)]) for k in range(4)]
        told = go_through(SKY, [0, 1], [(0, *refused[1:])] + taken)
        self.assertEqual(told[0], [[0, 1], None, None, None, None])
        with self.assertRaises(BadSize):
            go_through(SKY, [0, 1], taken + [(0, 1, [])])

    def test_by_the_words(self):
        chance = random.Random(58)
        answers = [0, 0]
        for seed in range(45):
            sky = small_worths(chance_sky(seed), seed) if seed % 2 else chance_sky(seed)
            sky = ([(look[0] % 3, *look[1:]) for look in sky[0][:4]], (sky[1] * 3)[:3], *sky[2:])
            able = [part for part in every_set(sky) if naive_keeping(sky, part)]
            promises = chance.choice(able)
            arrivals = []
            now = 0
            for _ in range(3):
                now += chance.randint(0, 12)
                looks = [(now + chance.randint(0, 10), chance.randint(1, 3), chance.randint(-40, 40),
                          chance.randint(1, 6)) for _ in range(chance.randint(1, 2))]
                arrivals.append((now, chance.randint(0, 9), looks))
            told = naive_go_through(sky, promises, arrivals)
            self.assertEqual(go_through(sky, promises, arrivals), told)
            for answer in told[0]:
                answers[answer is None] += 1
        self.assertGreater(min(answers), 20)

    def test_the_greatest_size(self):
        sky = large_sky(10, looks=12, wishes=4)
        arrivals = [(20, 50, [(30, 2, 0, 1), (90, 2, 0, 1)]), (40, 50, [(100, 2, 0, 1), (160, 2, 0, 1)])]
        answers, later, promises, plan = go_through(sky, [0], arrivals)
        self.assertEqual(set(promises) - set(wishes_in(later, plan)), set())
        self.assertEqual((len(later[0]), len(later[1])), (16, 6))
        self.assertGreaterEqual(naive_worth(later, plan), 0)
        many = large_sky(11)
        self.assertEqual(best_keeping(many, [])[0], best_worth(many))
        for wish in range(1, 6):
            self.assertEqual(clash_of(many, [0], wish) is None, can_keep(many, [0, wish]))


class Arguments(unittest.TestCase):
    def test_arguments_stay_and_results_are_new(self):
        late = [(8, 2, 40, 1), (6, 1, 0, 1)]
        for promises in ([], [0], [0, 1]):
            told = {"now": 5, "begun": [0]}
            for function in (can_keep, best_keeping, loss_of, forced_looks, open_looks):
                keeps(self, function, SKY, promises, **told)
            keeps(self, last_call, SKY, promises, 1, **told)
            keeps(self, with_late, SKY, 9, late, now=5)
            keeps(self, answer_late, SKY, promises, 9, late, **told)
            keeps(self, answer_late, SKY, promises, 9, late[:1], **told)
            keeps(self, go_through, SKY, promises, [(5, 9, late[:1]), (6, 9, late)])
            keeps(self, go_through, SKY, promises, [])
        keeps(self, plans_on, SKY, now=5, begun=[0])
        keeps(self, plans_on, SKY, now=9, begun=[0, 2])
        keeps(self, clash_of, SKY, [0], 1, now=9, begun=[0])


if __name__ == "__main__":
    unittest.main()

"""Points 64 to 68: the console, its deeds, undo and redo, the journal, replaying."""

import copy
import random
import unittest

from skypasses.console import Console, replay
from skypasses.errors import (
    BadEar, BadEntry, BadNumber, BadSize, BadTime, BadWish, Clash, NotSo, NothingToRedo, NothingToUndo, SkyError,
)
from skypasses.late import best_keeping

from tests.helpers import (
    chance_sky, large_sky, make_sky, naive_best, naive_clash, naive_keeping, naive_late, naive_worth, without,
)

SKY = ([(0, 0, 4, 0, 1), (1, 2, 4, 0, 1), (1, 8, 1, 0, 1)], [5, 7], [], 6, 20)
# The wishes 0 and 1 need both ears that are between them, and the wish 2 needs the last one behind each of them.
EARED = make_sky([(0, 0, 2, 0, 4), (1, 8, 2, 0, 4), (2, 20, 2, 0, 4)], worths=[5, 7, 9],
                 ears=[(3, 5, 1), (6, 8, 1), (12, 16, 1)], capacity=5)


def seen(console):
    """All that a console tells, as values that nothing changes."""
    return copy.deepcopy((
        console.sky(), console.now, console.begun(), console.promises(), console.plan(), console.worth(),
        console.journal(), console.can_undo, console.can_redo, len(console),
    ))


class Model:
    """A console by the words of points 64 to 67, with plans found by trying all lists."""

    def __init__(self, sky):
        self.stands = [(copy.deepcopy(sky), 0, [], [], naive_best(sky, [])[1])]
        self.at = 0
        self.journal = []

    def stand(self):
        return self.stands[self.at]

    def worth(self):
        return naive_worth(self.stand()[0], self.stand()[4])

    def seen(self):
        sky, now, begun, promises, plan = self.stand()
        return (sky, now, begun, promises, plan, self.worth(), self.journal, self.at > 0,
                self.at < len(self.stands) - 1, len(sky[0]))

    def step(self, sky, now, begun, promises):
        """A deed: makes an end of what could be redone."""
        told = naive_best(sky, promises, now, begun)
        self.stands = self.stands[:self.at + 1] + [(sky, now, begun, promises, told[1])]
        self.at += 1

    def do(self, entry):
        """Does what the entry tells; returns what is told, or the class of the error."""
        sky, now, begun, promises, plan = self.stand()
        word, rest = entry[0], list(entry[1:])
        before = self.worth()
        if word == "undo":
            if self.at == 0:
                return NothingToUndo
            self.at -= 1
            told = None
        elif word == "redo":
            if self.at == len(self.stands) - 1:
                return NothingToRedo
            self.at += 1
            told = None
        elif word == "go":
            if not now <= rest[0] <= 200:
                return BadTime
            late = [name for name in plan if sky[0][name][1] < rest[0]]
            told = [name for name in late if name not in begun]
            self.step(sky, rest[0], late, promises)
        elif word == "wish":
            if any(look[0] < now for look in rest[1]):
                return BadTime
            if len(sky[1]) == 6 or len(sky[0]) + len(rest[1]) > 16:
                return BadSize if len(sky[1]) == 6 or 0 <= rest[0] <= 99 else BadNumber
            if not 0 <= rest[0] <= 99:
                return BadNumber
            told = len(sky[1])
            self.step(naive_late(sky, *rest), now, begun, promises)
        elif word in ("promise", "release"):
            if not 0 <= rest[0] < len(sky[1]):
                return BadWish
            if (rest[0] in promises) != (word == "release"):
                return NotSo
            if word == "promise":
                clash = naive_clash(sky, promises, rest[0], now, begun)
                if clash is not None:
                    return (Clash, clash)
                self.step(sky, now, begun, sorted(promises + [rest[0]]))
            else:
                self.step(sky, now, begun, [wish for wish in promises if wish != rest[0]])
            told = abs(self.worth() - before)
        elif word == "lose":
            if not 0 <= rest[0] < len(sky[2]) or sky[2][rest[0]][0] < now:
                return BadEar
            later = without(sky, rest)
            kept = []
            for wish in promises:
                if naive_keeping(later, kept + [wish], now, begun):
                    kept = kept + [wish]
            told = [wish for wish in promises if wish not in kept]
            self.step(later, now, begun, kept)
        self.journal = self.journal + [copy.deepcopy(entry)]
        return told


def do(console, entry):
    """Does what the entry tells; returns what is told, or the class of the error."""
    word, *rest = entry
    try:
        return getattr(console, word)(*rest)
    except Clash as error:
        return (Clash, error.wishes)
    except SkyError as error:
        return type(error)


def chance_entry(chance, sky, now):
    kind = chance.randrange(20)
    if kind < 4:
        return ("go", now + chance.choice([0, 1, 2, 5, 9, -1]))
    if kind < 7:
        looks = [(now + chance.randint(0, 9) - (chance.randrange(12) == 0), chance.randint(1, 3),
                  chance.randint(-60, 60), chance.randint(1, 6)) for _ in range(chance.randint(0, 2))]
        return ("wish", chance.choice([0, 1, 5, 99, 100]), looks)
    if kind < 11:
        return ("promise", chance.randint(-1, len(sky[1])) if kind == 7 else chance.randrange(len(sky[1])))
    if kind < 13:
        return ("release", chance.randint(-1, len(sky[1])))
    if kind < 15:
        return ("lose", chance.randint(-1, len(sky[2])))
    return ("undo",) if kind < 18 else ("redo",)


class Making(unittest.TestCase):
    def test_examples_of_the_document(self):
        console = Console(SKY)
        self.assertEqual(
            (console.plan(), console.go(5), console.promise(1), console.wish(9, [(8, 2, 40, 1)])), ([0, 2], [0], 0, 2)
        )
        self.assertEqual(
            (console.plan(), console.what_if([("release", 1)]), console.release(1), console.worth()),
            ([0, 2], [0, 3], 2, 14),
        )

    def test_at_first(self):
        console = Console(SKY)
        self.assertEqual(seen(console), (SKY, 0, [], [], [0, 2], 12, [], False, False, 3))
        for value in (console.can_undo, console.can_redo):
            self.assertIs(value, False)
        empty = Console(make_sky())
        self.assertEqual(seen(empty), (make_sky(), 0, [], [], [], 0, [], False, False, 0))

    def test_what_the_check_raises(self):
        for sky, error in ((make_sky(worths=[]), BadSize), (make_sky(worths=[100]), BadNumber),
                           (make_sky([(2, 0, 1, 0, 1)]), BadWish), (make_sky([(0, 201, 1, 0, 1)]), BadTime)):
            with self.assertRaises(error):
                Console(sky)
            with self.assertRaises(error):
                replay(sky, [("undo",)])

    def test_lists_that_are_handed_in_are_copied(self):
        sky = copy.deepcopy(EARED)
        late = [(30, 2, 0, 1)]
        deeds = [("wish", 3, late), ("promise", 0)]
        console = Console(sky)
        console.wish(4, late)
        console.do_all(deeds)
        before = seen(console)
        for part in (sky[0], sky[1], sky[2], late, deeds):
            part.append("spoiled")
            part.reverse()
        self.assertEqual(seen(console), before)
        late = [(30, 2, 0, 1)]
        self.assertEqual(console.journal(), [("wish", 4, late), ("wish", 3, late), ("promise", 0)])
        console.undo()
        console.redo()
        self.assertEqual(seen(console)[:6], before[:6])

    def test_lists_that_are_returned_are_new(self):
        console = Console(EARED)
        console.wish(4, [(30, 2, 0, 1)])
        console.promise(0)
        told = console.go(9)
        self.assertEqual(told, [0, 1])
        before = seen(console)
        told.append("spoiled")
        sky = console.sky()
        for part in (sky[0], sky[1], sky[2], console.begun(), console.promises(), console.plan(), console.journal(),
                     console.journal()[0][2], console.what_if([]), console.what_if([("undo",)])):
            part.append("spoiled")
            part.reverse()
        self.assertEqual(seen(console), before)
        lost = Console(EARED)
        for wish in (0, 1, 2):
            lost.promise(wish)
        told = lost.lose(0)
        self.assertEqual(told, [1])
        told.append("spoiled")
        self.assertEqual(lost.promises(), [0, 2])
        lost.undo()
        self.assertEqual(lost.promises(), [0, 1, 2])


class Deeds(unittest.TestCase):
    def raises(self, error, console, word, *rest):
        before = seen(console)
        with self.assertRaises(error) as caught:
            getattr(console, word)(*rest)
        self.assertIs(type(caught.exception), error)
        for way in (console.do_all, console.what_if):
            with self.assertRaises(error):
                way([(word, *rest)])
        self.assertEqual(seen(console), before)
        return caught.exception

    def test_time_goes_on(self):
        console = Console(SKY)
        self.assertEqual(console.go(0), [])
        self.assertEqual((console.now, console.begun()), (0, []))
        self.assertEqual(console.go(1), [0])
        self.assertEqual(console.go(1), [])
        self.assertEqual((console.now, console.begun(), console.plan()), (1, [0], [0, 2]))
        # A look that starts just then has not begun.
        self.assertEqual(console.go(8), [])
        self.assertEqual(console.go(200), [2])
        self.assertEqual((console.now, console.begun(), console.worth()), (200, [0, 2], 12))
        self.assertEqual(console.go(200), [])

    def test_times_that_are_wrong(self):
        console = Console(SKY)
        console.go(5)
        console.go(6)
        console.undo()
        for time in (4, 0, -1, 201, 10 ** 30, True, False, None, 5.0, "undo", "redo", [5], (5,), {}, float("nan")):
            self.raises(BadTime, console, "go", time)
        console.go(200)
        for time in (199, 201):
            self.raises(BadTime, console, "go", time)

    def test_a_wish_is_put_in_and_not_promised(self):
        console = Console(SKY)
        self.assertEqual(console.wish(9, [(8, 2, 40, 1), (0, 1, 0, 1)]), 2)
        looks = [(0, 0, 4, 0, 1), (2, 0, 1, 0, 1), (1, 2, 4, 0, 1), (1, 8, 1, 0, 1), (2, 8, 2, 40, 1)]
        self.assertEqual(console.sky(), (looks, [5, 7, 9], [], 6, 20))
        self.assertEqual((console.promises(), console.plan(), console.worth(), len(console)), ([], [1, 2], 16, 5))
        self.assertEqual(console.wish(0, []), 3)
        self.assertEqual((console.promises(), console.plan(), len(console)), ([], [1, 2], 5))

    def test_wishes_that_are_wrong(self):
        console = Console(SKY)
        console.go(5)
        late = [(9, 1, 0, 1)]
        for worth in (-1, 100, True, False, None, 1.0, "1", [1], float("nan")):
            self.raises(BadNumber, console, "wish", worth, late)
            # A look that starts too early comes ahead of all else.
            self.raises(BadTime, console, "wish", worth, late + [(4, 1, 0, 1)])
        self.raises(BadTime, console, "wish", 1, [(4, 1, 0, 1)])
        self.raises(BadTime, console, "wish", 1, [(9, 21, 0, 1)])
        self.raises(BadTime, console, "wish", 1, [(201, 1, 0, 1)])
        self.raises(BadNumber, console, "wish", 1, [(9, 1, 91, 1)])
        self.raises(BadNumber, console, "wish", 1, [(9, 1, 0, 31)])

    def test_wishes_up_to_six_and_looks_up_to_sixteen(self):
        console = Console(SKY)
        for wish in range(2, 6):
            self.assertEqual(console.wish(1, [(20 + 3 * wish + k, 1, 0, 1) for k in range(3)]), wish)
        self.assertEqual((len(console), len(console.sky()[1])), (15, 6))
        self.raises(BadSize, console, "wish", 1, [])
        self.raises(BadSize, console, "wish", None, [])
        self.raises(BadTime, console, "wish", 1, [(-1, 1, 0, 1)])
        console = Console(SKY)
        late = [(20 + k, 1, 0, 1) for k in range(14)]
        self.raises(BadSize, console, "wish", 1, late)
        self.raises(BadNumber, console, "wish", 100, late)
        self.assertEqual(console.wish(1, late[:13]), 2)
        self.assertEqual(len(console), 16)
        self.raises(BadSize, console, "wish", 1, late[:1])
        self.assertEqual(console.wish(1, []), 3)

    def test_promises(self):
        sky = make_sky([(0, 0, 4, 0, 1), (1, 2, 4, 0, 1), (2, 3, 1, 0, 1)], worths=[9, 7, 3])
        console = Console(sky)
        self.assertEqual(console.plan(), [0])
        self.assertEqual(console.promise(2), 6)
        self.assertEqual((console.promises(), console.plan(), console.worth()), ([2], [2], 3))
        self.assertEqual(self.raises(Clash, console, "promise", 0).wishes, [2])
        self.assertEqual(self.raises(Clash, console, "promise", 1).wishes, [2])
        self.assertEqual(console.release(2), 6)
        self.assertEqual((console.promises(), console.plan(), console.worth()), ([], [0], 9))
        console.go(3)
        self.assertEqual(self.raises(Clash, console, "promise", 1).wishes, [])
        self.assertEqual(console.promise(0), 0)
        self.assertEqual(console.promises(), [0])

    def test_promises_ascend(self):
        console = Console(EARED)
        self.assertEqual([console.promise(wish) for wish in (2, 0, 1)], [0, 0, 0])
        self.assertEqual(console.promises(), [0, 1, 2])
        self.assertEqual(console.release(1), 0)
        self.assertEqual(console.promises(), [0, 2])

    def test_wishes_and_promises_that_are_not_so(self):
        console = Console(SKY)
        console.promise(0)
        for wish in (-1, 2, True, False, None, 0.0, "0", [0], (), 10 ** 30, float("nan")):
            self.raises(BadWish, console, "promise", wish)
            self.raises(BadWish, console, "release", wish)
        self.raises(NotSo, console, "promise", 0)
        self.raises(NotSo, console, "release", 1)
        # It is told that a wish is promised already, also when no more could be.
        tight = make_sky([(0, 0, 4, 0, 1), (1, 2, 4, 0, 1)])
        console = Console(tight)
        console.promise(1)
        self.raises(NotSo, console, "promise", 1)
        self.assertEqual(self.raises(Clash, console, "promise", 0).wishes, [1])

    def test_a_wish_that_no_look_is_for(self):
        console = Console(make_sky([(0, 0, 4, 0, 1)]))
        self.assertEqual(self.raises(Clash, console, "promise", 1).wishes, [])
        self.assertEqual(console.plan(), [0])

    def test_an_ear_is_lost(self):
        console = Console(EARED)
        for wish in (0, 1, 2):
            self.assertEqual(console.promise(wish), 0)
        # Without the ear there is no room for the wish 1 behind the wish 0; the wish 2 stays.
        self.assertEqual(console.lose(1), [1])
        self.assertEqual(console.sky(), (EARED[0], EARED[1], [(3, 5, 1), (12, 16, 1)], 5, 20))
        self.assertEqual((console.promises(), console.plan(), console.worth()), ([0, 2], [0, 2], 14))
        self.assertEqual(console.lose(1), [2])
        self.assertEqual(console.sky()[2], [(3, 5, 1)])
        self.assertEqual((console.promises(), console.plan(), console.worth()), ([0], [0], 5))
        self.assertEqual(console.lose(0), [])
        self.assertEqual((console.promises(), console.plan()), ([0], [0]))
        self.raises(BadEar, console, "lose", 0)
        console = Console(EARED)
        console.promise(2)
        console.promise(1)
        self.assertEqual(console.lose(2), [2])
        self.assertEqual((console.promises(), console.plan()), ([1], [0, 1]))

    def test_ears_that_are_wrong(self):
        console = Console(EARED)
        for ear in (-1, 3, True, False, None, 0.0, "0", [0], 10 ** 30, float("nan")):
            self.raises(BadEar, console, "lose", ear)
        console.go(6)
        self.raises(BadEar, console, "lose", 0)
        # The ear 1 begins just now.
        self.assertEqual(console.lose(1), [])
        self.assertEqual(console.lose(1), [])
        self.raises(BadEar, console, "lose", 1)
        self.raises(BadEar, console, "lose", 0)
        console.go(200)
        self.assertEqual(console.sky()[2], [(3, 5, 1)])

    def test_what_has_begun_stays_when_an_ear_is_lost(self):
        console = Console(EARED)
        console.go(9)
        self.assertEqual((console.begun(), console.plan()), ([0, 1], [0, 1, 2]))
        console.promise(2)
        self.assertEqual(console.lose(2), [2])
        self.assertEqual((console.begun(), console.plan(), console.promises()), ([0, 1], [0, 1], []))


class UndoAndRedo(unittest.TestCase):
    def test_there_and_back(self):
        console = Console(EARED)
        stands = [seen(console)]
        for entry in (("go", 1), ("wish", 9, [(30, 1, 0, 1)]), ("promise", 3), ("lose", 2), ("release", 3)):
            do(console, entry)
            stands.append(seen(console))
        self.assertIs(console.can_undo, True)
        self.assertIs(console.can_redo, False)
        for stand in reversed(stands[:-1]):
            self.assertIsNone(console.undo())
            self.assertEqual(seen(console)[:6], stand[:6])
            self.assertIs(console.can_redo, True)
        self.assertIs(console.can_undo, False)
        before = seen(console)
        with self.assertRaises(NothingToUndo):
            console.undo()
        self.assertEqual(seen(console), before)
        for stand in stands[1:]:
            self.assertIsNone(console.redo())
            self.assertEqual(seen(console)[:6], stand[:6])
        before = seen(console)
        with self.assertRaises(NothingToRedo):
            console.redo()
        self.assertEqual(seen(console), before)
        self.assertEqual(console.journal()[5:], [("undo",)] * 5 + [("redo",)] * 5)

    def test_a_deed_makes_an_end_of_what_could_be_redone(self):
        console = Console(SKY)
        console.go(1)
        console.go(2)
        console.undo()
        console.promise(0)
        self.assertIs(console.can_redo, False)
        with self.assertRaises(NothingToRedo):
            console.redo()
        console.undo()
        self.assertEqual((console.now, console.promises()), (1, []))
        console.redo()
        self.assertEqual((console.now, console.promises()), (1, [0]))

    def test_what_is_refused_makes_no_end_of_it(self):
        console = Console(SKY)
        console.go(3)
        console.undo()
        for entry in (("go", -1), ("promise", 2), ("release", 0), ("lose", 0), ("wish", 100, []), ("undo",)):
            self.assertIsInstance(do(console, entry), type)
        self.assertIs(console.can_redo, True)
        console.redo()
        self.assertEqual(console.now, 3)


class Lists(unittest.TestCase):
    DEEDS = [("go", 1), ("wish", 9, [(30, 1, 0, 1)]), ("undo",), ("redo",), ("promise", 2), ("lose", 1), ("release", 2)]

    def test_one_after_another(self):
        console = Console(EARED)
        self.assertIsNone(console.do_all(self.DEEDS))
        other = Console(EARED)
        for entry in self.DEEDS:
            do(other, entry)
        self.assertEqual(seen(console), seen(other))
        self.assertEqual(console.journal(), self.DEEDS)
        # Each deed is undone by itself.
        console.undo()
        self.assertEqual(console.promises(), [2])
        console.undo()
        self.assertEqual(len(console.sky()[2]), 3)

    def test_the_empty_list(self):
        console = Console(EARED)
        console.go(1)
        console.undo()
        before = seen(console)
        self.assertIsNone(console.do_all([]))
        self.assertEqual(console.what_if([]), console.plan())
        self.assertEqual(seen(console), before)

    def test_a_wrong_deed_at_each_place(self):
        wrong = [(("go", 0), BadTime), (("wish", 100, []), BadNumber), (("promise", 9), BadWish), (("lose", 3), BadEar)]
        for at in range(len(self.DEEDS) + 1):
            for entry, error in wrong:
                if entry == ("go", 0) and at == 0:
                    continue
                console = Console(EARED)
                console.go(0)
                console.promise(0)
                console.undo()
                before = seen(console)
                deeds = self.DEEDS[:at] + [entry] + self.DEEDS[at:] + [("go", -1)]
                with self.assertRaises(error):
                    console.do_all(deeds)
                self.assertEqual(seen(console), before)
                with self.assertRaises(error):
                    console.what_if(deeds)
                self.assertEqual(seen(console), before)
                console.redo()
                self.assertEqual(console.promises(), [0])

    def test_the_first_error_is_raised(self):
        console = Console(SKY)
        with self.assertRaises(NotSo):
            console.do_all([("go", 1), ("release", 0), ("go", 0)])
        with self.assertRaises(BadTime):
            console.do_all([("go", 1), ("go", 0), ("release", 0)])
        with self.assertRaises(Clash) as caught:
            console.what_if([("go", 3), ("promise", 1), ("undo",), ("wish", 1, []), ("promise", 2), ("go", 0)])
        self.assertEqual(caught.exception.wishes, [])
        self.assertEqual(console.journal(), [])

    def test_undo_of_what_was_ahead_of_the_list(self):
        console = Console(SKY)
        console.go(1)
        console.promise(1)
        console.do_all([("undo",), ("undo",), ("promise", 0)])
        self.assertEqual((console.now, console.promises(), console.can_redo), (0, [0], False))
        self.assertEqual(
            console.journal(), [("go", 1), ("promise", 1), ("undo",), ("undo",), ("promise", 0)]
        )
        before = seen(console)
        for deeds in ([("undo",), ("undo",)], [("go", 3), ("undo",), ("undo",), ("undo",)]):
            with self.assertRaises(NothingToUndo):
                console.do_all(deeds)
            with self.assertRaises(NothingToUndo):
                console.what_if(deeds)
            self.assertEqual(seen(console), before)
        for deeds in ([("redo",)], [("undo",), ("redo",), ("redo",)], [("undo",), ("go", 1), ("redo",)]):
            with self.assertRaises(NothingToRedo):
                console.do_all(deeds)
            self.assertEqual(seen(console), before)
        console.do_all([("undo",)])
        console.do_all([("redo",)])
        self.assertEqual(seen(console)[:6], before[:6])

    def test_what_if_leaves_the_console(self):
        console = Console(EARED)
        console.promise(2)
        before = seen(console)
        self.assertEqual(console.what_if([("lose", 0), ("lose", 0)]), [1, 2])
        self.assertEqual(console.what_if([("undo",), ("lose", 2), ("lose", 1)]), [2])
        self.assertEqual(seen(console), before)
        console.undo()
        self.assertEqual(console.what_if([("redo",), ("go", 9)]), [0, 1, 2])
        self.assertIs(console.can_redo, True)


class Journal(unittest.TestCase):
    def test_what_was_refused_does_not_stand_there(self):
        console = Console(SKY)
        done = []
        deeds = [("go", 1), ("go", 0), ("promise", 1), ("promise", 1), ("undo",), ("redo",), ("redo",), ("lose", 0)]
        for entry in deeds:
            if not isinstance(do(console, entry), type):
                done.append(entry)
        self.assertEqual(console.journal(), [("go", 1), ("promise", 1), ("undo",), ("redo",)])
        self.assertEqual(console.journal(), done)

    def test_replaying(self):
        console = Console(EARED)
        console.do_all(Lists.DEEDS + [("undo",), ("undo",)])
        other = replay(EARED, console.journal())
        self.assertIsInstance(other, Console)
        self.assertEqual(seen(other), seen(console))
        for _ in range(2):
            other.redo()
            console.redo()
            self.assertEqual(seen(other), seen(console))
        self.assertEqual(seen(replay(EARED, [])), seen(Console(EARED)))

    def test_the_first_entry_that_raises_an_error(self):
        entries = Lists.DEEDS
        for wrong in (("go", 201), ("go", None), ("promise", -1), ("release", 1), ("lose", 9), ("wish", -1, [])):
            for at in range(len(entries) + 1):
                with self.assertRaises(BadEntry) as caught:
                    replay(EARED, entries[:at] + [wrong] + entries[at:] + [wrong])
                self.assertEqual(caught.exception.at, at)
        for journal, at in (([("undo",)], 0), ([("go", 1), ("redo",)], 1), ([("go", 1), ("undo",), ("undo",)], 2),
                            ([("promise", 0), ("promise", 0)], 1)):
            with self.assertRaises(BadEntry) as caught:
                replay(EARED, journal)
            self.assertEqual(caught.exception.at, at)

    def test_a_journal_that_is_changed_later(self):
        late = [(30, 1, 0, 1)]
        journal = [("wish", 9, late), ("promise", 3)]
        console = replay(EARED, journal)
        before = seen(console)
        late.append((40, 1, 0, 1))
        journal.append(("undo",))
        self.assertEqual(seen(console), before)


class ByTheWords(unittest.TestCase):
    def test_deeds_by_chance(self):
        errors = {}
        for seed in range(60):
            chance = random.Random(seed)
            sky = chance_sky(seed)
            sky = ([(look[0] % 3, *look[1:]) for look in sky[0][:5]], (sky[1] * 3)[:3], *sky[2:])
            console = Console(sky)
            model = Model(sky)
            for _ in range(18):
                here = model.stand()
                entry = chance_entry(chance, here[0], here[1])
                before = model.worth()
                told = do(console, copy.deepcopy(entry))
                self.assertEqual(told, model.do(entry), (seed, entry))
                self.assertEqual(seen(console), model.seen())
                name = told if isinstance(told, type) else Clash if isinstance(told, tuple) else entry[0]
                errors[name] = errors.get(name, 0) + 1
                # Point 68: how the worth rises and falls.
                if entry[0] in ("wish", "release"):
                    self.assertGreaterEqual(console.worth(), before)
                if entry[0] == "promise" or entry[0] == "lose" and told == []:
                    self.assertLessEqual(console.worth(), before)
                if entry[0] == "go":
                    self.assertEqual(console.plan(), here[4])
            self.assertEqual(seen(replay(sky, console.journal())), seen(console))
        refused = [BadTime, BadWish, BadEar, NotSo, Clash, NothingToUndo, NothingToRedo, BadNumber]
        for name in refused + ["go", "wish", "promise", "release", "lose", "undo", "redo"]:
            self.assertGreater(errors.get(name, 0), 3, name)

    def test_the_plan_is_the_best_one_that_keeps_the_promises(self):
        for seed in range(40):
            chance = random.Random(seed)
            console = Console(large_sky(seed, looks=10, wishes=4))
            for _ in range(12):
                do(console, chance_entry(chance, console.sky(), console.now))
                worth, plan = best_keeping(console.sky(), console.promises(), now=console.now, begun=console.begun())
                self.assertEqual((console.worth(), console.plan()), (worth, plan))

    def test_the_greatest_size_and_some_dozens_of_deeds(self):
        sky = large_sky(13, looks=13, wishes=5)
        deeds = []
        for wish in range(5):
            deeds += [("promise", wish), ("go", 2 * wish), ("undo",), ("redo",), ("release", wish)]
        deeds += [("wish", 50, [(100, 2, 0, 1), (150, 2, 0, 1), (190, 2, 0, 1)]), ("promise", 5), ("lose", 3)]
        deeds += [("go", time) for time in range(10, 201, 19)]
        console = Console(sky)
        console.do_all(deeds)
        self.assertEqual((len(console), len(console.sky()[1]), console.now), (16, 6, 200))
        self.assertEqual(console.journal(), deeds)
        self.assertEqual(seen(replay(sky, deeds)), seen(console))


if __name__ == "__main__":
    unittest.main()

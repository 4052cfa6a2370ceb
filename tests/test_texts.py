"""Points 15 to 19: the texts of skies and plans, the errors of reading, and the report."""

import itertools
import random
import re
import unittest

from skypasses import errors
from skypasses.errors import BadLook, BadNumber, BadSize, BadText, BadTime, BadWish, NoPlan
from skypasses.skies import is_plan
from skypasses.texts import read_plan, read_sky, report, write_plan, write_sky

from tests.helpers import (
    EXAMPLE, chance_sky, every_plan, keeps, large_sky, make_sky, naive_turning, naive_worth, naive_wrong, run_store,
)

TEXT = "turn 20\nstore 6\nwish 5\nwish 7\near 2 4 1\nlook 1 3 1 -30 3\nlook 0 6 1 0 2\n"
SKY = ([(1, 3, 1, -30, 3), (0, 6, 1, 0, 2)], [5, 7], [(2, 4, 1)], 6, 20)
HEAD = "turn 20\nstore 6\n"

NUMBER = r"0|[1-9][0-9]?[0-9]?"
ANGLE = r"0|-?[1-9][0-9]?[0-9]?"
SHAPES = {
    "turn": ["turn", NUMBER],
    "store": ["store", NUMBER],
    "wish": ["wish", NUMBER],
    "ear": ["ear", NUMBER, NUMBER, NUMBER],
    "look": ["look", NUMBER, NUMBER, NUMBER, ANGLE, NUMBER],
}


def naive_line(line, is_ended, shape):
    """The column of what is wrong with the line, whose words must match the shape, or None. Goes sign by sign."""
    column = 1
    rest = line
    for at, wanted in enumerate(shape):
        word, blank, behind = rest.partition(" ")
        if re.fullmatch(wanted, word) is None:
            return column
        if not blank and at + 1 < len(shape):
            return len(line) + 1
        if blank and at + 1 == len(shape):
            return column + len(word) + 1
        column += len(word) + 1
        rest = behind
    return None if is_ended else len(line) + 1


def naive_lines(text):
    return [(line.rstrip("\n"), line.endswith("\n")) for line in re.findall(r"[^\n]*\n|[^\n]+", text)]


def naive_sky_form(text):
    """What is wrong with the form of the text of a sky by point 16, as (line, column), or None."""
    lines = naive_lines(text)
    order = ["turn", "store", "wish", "ear", "look"]
    ahead = None
    for number, (line, is_ended) in enumerate(lines, start=1):
        if number <= 2:
            allowed = [order[number - 1]]
        else:
            allowed = order[max(2, order.index(ahead)):]
        head = line.partition(" ")[0]
        if head not in allowed:
            return (number, 1)
        column = naive_line(line, is_ended, SHAPES[head])
        if column is not None:
            return (number, column)
        ahead = head
    return None if len(lines) >= 2 else (len(lines) + 1, 1)


def naive_plan_form(text):
    lines = naive_lines(text)
    if not lines:
        return (1, 1)
    line, is_ended = lines[0]
    head, *numbers = line.split(" ")
    column = naive_line(line, is_ended, ["plan"] + [NUMBER] * len(numbers))
    if column is not None:
        return (1, column)
    return (2, 1) if len(lines) > 1 else None


def chance_texts(text, seed, many):
    """Texts that differ from this one at one or two places."""
    chance = random.Random(seed)
    signs = " \n0123456789-wishearlookturnstoreplan\t\r"
    for _ in range(many):
        told = text
        for _ in range(chance.randint(1, 2)):
            at = chance.randint(0, len(told))
            kind = chance.randrange(3)
            sign = chance.choice(signs) if kind else ""
            told = told[:at] + sign + told[at + (1 if kind < 2 else 0):]
        yield told


class Texts(unittest.TestCase):
    def bad_text(self, line, column, function, *args):
        with self.assertRaises(BadText) as caught:
            function(*args)
        self.assertEqual((caught.exception.line, caught.exception.column), (line, column), args[-1])

    def bad_sky(self, line, column, text):
        self.bad_text(line, column, read_sky, text)

    def bad_plan(self, line, column, text, sky=EXAMPLE):
        self.bad_text(line, column, read_plan, sky, text)

    def raises(self, due, text):
        with self.assertRaises(errors.SkyError) as caught:
            read_sky(text)
        self.assertIs(caught.exception.__class__, due, text)


class Example(Texts):
    def test_examples_of_the_document(self):
        self.assertEqual(read_sky(TEXT), SKY)
        self.assertEqual(read_plan(SKY, "plan 0 1\n"), [0, 1])
        self.assertEqual(
            report(SKY, [0, 1]),
            "look 0 from 3 to 4 turn 0 store 3\nlook 1 from 6 to 7 turn 2 store 5\nworth 12\n",
        )
        self.bad_sky(2, 7, "turn 20\nstore  6\n")


class WriteSky(Texts):
    def test_all_lines_in_order(self):
        self.assertEqual(write_sky(SKY), TEXT)

    def test_without_looks_and_ears(self):
        self.assertEqual(write_sky(([], [0], [], 1, 90)), "turn 90\nstore 1\nwish 0\n")
        text = write_sky(([], [5, 7], [(0, 200, 30)], 30, 1))
        self.assertEqual(text, "turn 1\nstore 30\nwish 5\nwish 7\near 0 200 30\n")

    def test_lists_keep_their_orders(self):
        looks = [(1, 4, 1, 90, 9), (0, 4, 20, -90, 30), (1, 4, 2, -1, 1)]
        text = write_sky(make_sky(looks, [9, 1], [(0, 1, 2), (1, 20, 1)], 10, 45))
        self.assertEqual(
            text,
            "turn 45\nstore 10\nwish 9\nwish 1\near 0 1 2\near 1 20 1\n"
            "look 1 4 1 90 9\nlook 0 4 20 -90 30\nlook 1 4 2 -1 1\n",
        )

    def test_sky_of_the_greatest_size(self):
        text = write_sky(large_sky(1))
        self.assertEqual(text.count("\n"), 2 + 6 + 4 + 16)
        self.assertEqual(read_sky(text), large_sky(1))


class ReadSky(Texts):
    def test_reading_gives_an_equal_sky(self):
        for seed in range(200):
            sky = chance_sky(seed)
            again = read_sky(write_sky(sky))
            self.assertEqual(again, sky)
            self.assertEqual([type(look) for look in again[0]], [tuple] * len(sky[0]))
            self.assertEqual([type(ear) for ear in again[2]], [tuple] * len(sky[2]))

    def test_bounds_are_read(self):
        looks = [(0, 0, 1, -90, 1)] * 8 + [(5, 200, 20, 90, 30)] * 8
        sky = (looks, [0, 99, 0, 99, 0, 99], [(0, 1, 1), (1, 2, 30), (2, 199, 1), (199, 200, 30)], 30, 90)
        self.assertEqual(read_sky(write_sky(sky)), sky)

    def test_kinds_of_lines_may_be_missing(self):
        self.assertEqual(read_sky(HEAD + "wish 5\n"), ([], [5], [], 6, 20))
        self.assertEqual(read_sky(HEAD + "wish 5\nlook 0 0 1 0 1\n"), ([(0, 0, 1, 0, 1)], [5], [], 6, 20))
        self.assertEqual(read_sky(HEAD + "wish 5\near 0 1 1\n"), ([], [5], [(0, 1, 1)], 6, 20))

    def test_what_was_read_is_written_as_the_text(self):
        read = 0
        for seed in range(40):
            for text in chance_texts(write_sky(chance_sky(seed)), seed, 60):
                try:
                    sky = read_sky(text)
                except errors.SkyError:
                    continue
                self.assertEqual(write_sky(sky), text)
                read += 1
        self.assertGreater(read, 100)


class FirstWords(Texts):
    def test_first_line(self):
        for line in ("store 6", "Turn 20", "wish 5", "turns 20", "tur 20", "", " turn 20", "turn\t20", "20", "TURN 20"):
            self.bad_sky(1, 1, line + "\nstore 6\nwish 5\n")

    def test_second_line(self):
        for line in ("turn 20", "wish 5", "stores 6", "", " store 6", "store\r", "6", "look 0 0 1 0 1"):
            self.bad_sky(2, 1, "turn 20\n" + line + "\nwish 5\n")

    def test_later_lines(self):
        for line in ("turn 20", "store 6", "plan 0", "", " wish 5", "wishes 5", "5", "-", "ears 0 1 1", "worth 5"):
            self.bad_sky(3, 1, HEAD + line + "\n")
            self.bad_sky(4, 1, HEAD + "wish 5\n" + line + "\n")
            self.bad_sky(4, 1, HEAD + "look 0 0 1 0 1\n" + line + "\n")

    def test_lines_behind_later_words(self):
        lines = {"wish": "wish 5\n", "ear": "ear 0 1 1\n", "look": "look 0 0 1 0 1\n"}
        for ahead, behind in [("ear", "wish"), ("look", "wish"), ("look", "ear")]:
            self.bad_sky(4, 1, HEAD + lines[ahead] + lines[behind])
            self.bad_sky(5, 1, HEAD + "wish 5\n" + lines[ahead] + lines[behind])
        for ahead, behind in [("wish", "ear"), ("wish", "look"), ("ear", "look")]:
            try:
                read_sky(HEAD + lines[ahead] + lines[behind])
            except BadText:
                self.fail((ahead, behind))
            except errors.SkyError:
                pass
        self.bad_sky(6, 1, HEAD + "wish 5\nlook 0 0 1 0 1\nlook 0 0 1 0 1\near 0 1 1\n")

    def test_the_first_word_is_told_ahead_of_what_is_behind_it(self):
        self.bad_sky(1, 1, "store x\n")
        self.bad_sky(3, 1, HEAD + "turn 1000 5\n")
        self.bad_sky(4, 1, HEAD + "ear 0 1 1\nwish x\n")


class Numbers(Texts):
    def test_no_numbers(self):
        for word in ("x", "00", "01", "007", "1000", "0001", "+5", "5x", "x5", "5.", "0x5", "5\t", "\r", "1_0", "-"):
            self.bad_sky(1, 6, f"turn {word}\nstore 6\nwish 5\n")
            self.bad_sky(2, 7, f"turn 20\nstore {word}\nwish 5\n")
            self.bad_sky(3, 6, HEAD + f"wish {word}\n")
            self.bad_sky(4, 12, HEAD + f"wish 5\nlook 0 0 1 {word} 1\n")

    def test_digits_of_other_scripts(self):
        for word in ("\u0665", "\u00b2", "\uff15", "\u2460", "5\u0665"):
            self.bad_sky(3, 6, HEAD + f"wish {word}\n")
            self.bad_plan(1, 6, f"plan {word}\n")

    def test_each_place_of_ears_and_looks(self):
        for at, column in enumerate([5, 7, 9]):
            words = ["0", "1", "1"]
            words[at] = "01"
            self.bad_sky(4, column, HEAD + "wish 5\near " + " ".join(words) + "\n")
        for at, column in enumerate([6, 8, 10, 12, 14]):
            words = ["0", "0", "1", "0", "1"]
            words[at] = "1000"
            self.bad_sky(4, column, HEAD + "wish 5\nlook " + " ".join(words) + "\n")

    def test_signs_stand_only_ahead_of_angles(self):
        self.assertEqual(read_sky(HEAD + "wish 5\nlook 0 0 1 -5 1\n")[0], [(0, 0, 1, -5, 1)])
        self.assertEqual(read_sky(HEAD + "wish 5\nlook 0 0 1 -90 1\n")[0], [(0, 0, 1, -90, 1)])
        self.bad_sky(1, 6, "turn -5\n")
        self.bad_sky(2, 7, "turn 20\nstore -5\n")
        self.bad_sky(3, 6, HEAD + "wish -5\n")
        for at, column in enumerate([5, 7, 9]):
            words = ["2", "3", "4"]
            words[at] = "-1"
            self.bad_sky(4, column, HEAD + "wish 5\near " + " ".join(words) + "\n")
        for at, column in [(0, 6), (1, 8), (2, 10), (4, 14)]:
            words = ["0", "0", "1", "0", "1"]
            words[at] = "-1"
            self.bad_sky(4, column, HEAD + "wish 5\nlook " + " ".join(words) + "\n")

    def test_wrong_angles(self):
        for word in ("-0", "-00", "-05", "--5", "-", "- 5", "+5", "-1000", "5-", "-x", "\u22125"):
            self.bad_sky(4, 12, HEAD + f"wish 5\nlook 0 0 1 {word} 1\n")

    def test_numbers_of_three_digits_are_right_in_their_form(self):
        self.raises(BadNumber, HEAD + "wish 999\n")
        self.raises(BadNumber, "turn 999\nstore 6\nwish 5\n")
        self.raises(BadNumber, HEAD + "wish 5\nlook 0 0 1 -999 1\n")
        self.bad_sky(3, 6, HEAD + "wish 0999\n")
        self.bad_sky(3, 6, HEAD + "wish 9999\n")


class Words(Texts):
    def test_too_many_words(self):
        self.bad_sky(1, 9, "turn 20 5\nstore 6\n")
        self.bad_sky(1, 9, "turn 20 x y\nstore 6\n")
        self.bad_sky(2, 9, "turn 20\nstore 6 turn\n")
        self.bad_sky(3, 8, HEAD + "wish 5 5\n")
        self.bad_sky(4, 11, HEAD + "wish 5\near 0 1 1 1\n")
        self.bad_sky(4, 16, HEAD + "wish 5\nlook 0 0 1 0 1 1\n")

    def test_too_few_words(self):
        self.bad_sky(1, 5, "turn\nstore 6\n")
        self.bad_sky(2, 6, "turn 20\nstore\n")
        self.bad_sky(3, 5, HEAD + "wish\n")
        for line in ("ear", "ear 0", "ear 0 1", "look", "look 0", "look 0 0", "look 0 0 1", "look 0 0 1 -20"):
            self.bad_sky(4, len(line) + 1, HEAD + "wish 5\n" + line + "\n")
            self.bad_sky(4, len(line) + 1, HEAD + "wish 5\n" + line)
            self.bad_sky(4, len(line) + 1, HEAD + "wish 5\n" + line + "\nx\n")

    def test_a_wrong_word_comes_ahead_of_missing_ones(self):
        self.bad_sky(4, 5, HEAD + "wish 5\near x\n")
        self.bad_sky(4, 7, HEAD + "wish 5\near 0 01\n")

    def test_a_wrong_word_comes_ahead_of_one_too_many(self):
        self.bad_sky(1, 6, "turn x 5\n")
        self.bad_sky(4, 9, HEAD + "wish 5\near 0 1 x 7\n")

    def test_empty_words(self):
        self.bad_sky(1, 6, "turn  20\nstore 6\n")
        self.bad_sky(1, 9, "turn 20 \nstore 6\n")
        self.bad_sky(1, 9, "turn 20  \nstore 6\n")
        self.bad_sky(1, 6, "turn \nstore 6\n")
        self.bad_sky(1, 6, "turn  \nstore 6\n")
        self.bad_sky(1, 1, " turn 20\nstore 6\n")
        self.bad_sky(1, 1, " \nstore 6\n")
        self.bad_sky(4, 7, HEAD + "wish 5\near 0  1 1\n")
        self.bad_sky(4, 9, HEAD + "wish 5\near 0 1 \n")
        self.bad_sky(4, 11, HEAD + "wish 5\near 0 1 1 \n")

    def test_empty_lines(self):
        self.bad_sky(1, 1, "\n")
        self.bad_sky(1, 1, "\n" + TEXT)
        self.bad_sky(2, 1, "turn 20\n\n")
        self.bad_sky(3, 1, HEAD + "\n")
        self.bad_sky(8, 1, TEXT + "\n")
        self.bad_sky(8, 1, TEXT + "\n\n")


class Ends(Texts):
    def test_no_newline_at_the_end(self):
        self.bad_sky(7, 15, TEXT[:-1])
        self.bad_sky(1, 8, "turn 20")
        self.bad_sky(2, 8, "turn 20\nstore 6")
        self.bad_sky(3, 7, HEAD + "wish 5")
        self.bad_sky(4, 10, HEAD + "wish 5\near 0 1 1")

    def test_what_else_is_wrong_in_the_last_line_comes_first(self):
        self.bad_sky(1, 6, "turn x")
        self.bad_sky(1, 5, "turn")
        self.bad_sky(1, 1, "x")
        self.bad_sky(1, 9, "turn 20 ")
        self.bad_sky(3, 1, HEAD + "x")
        self.bad_sky(3, 5, HEAD + "wish")

    def test_missing_lines(self):
        self.bad_sky(1, 1, "")
        self.bad_sky(2, 1, "turn 20\n")
        self.raises(BadSize, HEAD)

    def test_other_signs_that_end_lines_elsewhere(self):
        for sign in ("\r", "\x0b", "\x0c", "\x1c", "\x85", "\u2028"):
            self.bad_sky(1, 6, f"turn 20{sign}\nstore 6\nwish 5\n")
            self.bad_sky(1, 6, f"turn 20{sign}store 6\nwish 5\n")

    def test_every_beginning_of_a_text(self):
        for text in (TEXT, write_sky(chance_sky(3))):
            for length in range(len(text)):
                told = naive_sky_form(text[:length])
                if told is not None:
                    self.bad_sky(*told, text[:length])

    def test_texts_by_chance(self):
        found = {}
        for seed in range(60):
            for text in chance_texts(write_sky(chance_sky(seed)), seed, 60):
                told = naive_sky_form(text)
                if told is not None:
                    self.bad_sky(*told, text)
                    found[told] = True
                    continue
                try:
                    read_sky(text)
                except BadText:
                    self.fail(text)
                except errors.SkyError:
                    pass
        self.assertGreater(len(found), 100)


class Checks(Texts):
    def test_the_form_comes_ahead_of_the_check(self):
        self.bad_sky(3, 1, "turn 0\nstore 0\nx\n")
        self.bad_sky(4, 14, "turn 0\nstore 0\nwish 999\nlook 9 0 1 0 x\n")

    def test_what_the_check_raises(self):
        self.raises(BadSize, HEAD)
        self.raises(BadSize, HEAD + "wish 5\n" * 7)
        self.raises(BadNumber, HEAD + "wish 100\n")
        self.raises(BadSize, HEAD + "wish 5\n" + "look 0 0 1 0 1\n" * 17)
        self.raises(BadWish, HEAD + "wish 5\nlook 1 0 1 0 1\n")
        self.raises(BadTime, HEAD + "wish 5\nlook 0 201 1 0 1\n")
        self.raises(BadTime, HEAD + "wish 5\nlook 0 0 0 0 1\n")
        self.raises(BadTime, HEAD + "wish 5\nlook 0 5 1 0 1\nlook 0 4 1 0 1\n")
        self.raises(BadNumber, HEAD + "wish 5\nlook 0 0 1 -91 1\n")
        self.raises(BadNumber, HEAD + "wish 5\nlook 0 0 1 0 31\n")
        self.raises(BadSize, HEAD + "wish 5\n" + "ear 0 1 1\n" * 5)
        self.raises(BadTime, HEAD + "wish 5\near 1 1 1\n")
        self.raises(BadNumber, HEAD + "wish 5\near 0 1 0\n")
        self.raises(BadNumber, "turn 20\nstore 31\nwish 5\n")
        self.raises(BadNumber, "turn 0\nstore 6\nwish 5\n")

    def test_greatest_numbers_of_lines(self):
        self.assertEqual(len(read_sky(HEAD + "wish 5\n" * 6)[1]), 6)
        self.assertEqual(len(read_sky(HEAD + "wish 5\n" + "look 0 0 1 0 1\n" * 16)[0]), 16)


class WritePlan(Texts):
    def test_lines(self):
        self.assertEqual(write_plan([]), "plan\n")
        self.assertEqual(write_plan([0]), "plan 0\n")
        self.assertEqual(write_plan([3, 0, 15, 3]), "plan 3 0 15 3\n")
        self.assertEqual(write_plan([999, 10, 100]), "plan 999 10 100\n")

    def test_all_numbers(self):
        told = write_plan(list(range(1000)))
        self.assertEqual(told, "plan " + " ".join(str(number) for number in range(1000)) + "\n")


class ReadPlan(Texts):
    def test_plans_are_read(self):
        self.assertEqual(read_plan(EXAMPLE, "plan\n"), [])
        self.assertEqual(read_plan(EXAMPLE, "plan 1 2\n"), [1, 2])
        self.assertEqual(read_plan(make_sky(), "plan\n"), [])
        for seed in range(40):
            sky = chance_sky(seed)
            for plan in every_plan(sky):
                self.assertEqual(read_plan(sky, write_plan(plan)), plan)

    def test_form(self):
        self.bad_plan(1, 1, "")
        self.bad_plan(1, 1, "\n")
        self.bad_plan(1, 1, "plans 1\n")
        self.bad_plan(1, 1, " plan 1\n")
        self.bad_plan(1, 1, "1 2\n")
        self.bad_plan(1, 5, "plan")
        self.bad_plan(1, 9, "plan 1 2")
        self.bad_plan(1, 6, "plan ")
        self.bad_plan(1, 6, "plan \n")
        self.bad_plan(1, 6, "plan  1\n")
        self.bad_plan(1, 8, "plan 1 \n")
        self.bad_plan(1, 8, "plan 1 -2\n")
        self.bad_plan(1, 6, "plan -1 2\n")
        self.bad_plan(1, 6, "plan -0\n")
        for ahead in range(8):
            self.bad_plan(1, 6 + 2 * ahead, "plan " + "1 " * ahead + "-2\n")
        self.bad_plan(1, 6, "plan 01\n")
        self.bad_plan(1, 10, "plan 999 1000\n")
        self.bad_plan(1, 8, "plan 1 x\n")
        self.bad_plan(1, 6, "plan x 01")

    def test_second_line(self):
        self.bad_plan(2, 1, "plan 1 2\n\n")
        self.bad_plan(2, 1, "plan 1 2\nplan 1 2\n")
        self.bad_plan(2, 1, "plan\nx")
        self.bad_plan(2, 1, "plan\n\n\n")
        self.bad_plan(1, 6, "plan x\n\n")

    def test_texts_by_chance(self):
        for seed in range(20):
            for text in chance_texts("plan 0 12 999 3 100\n"[:6 + seed] + "\n", seed, 60):
                told = naive_plan_form(text)
                if told is not None:
                    self.bad_plan(*told, text)
                    continue
                try:
                    read_plan(EXAMPLE, text)
                except BadText:
                    self.fail(text)
                except errors.SkyError:
                    pass

    def bad_look(self, at, text):
        with self.assertRaises(BadLook) as caught:
            read_plan(EXAMPLE, text)
        self.assertEqual(caught.exception.at, at)

    def test_names_of_no_look(self):
        self.bad_look(0, "plan 3\n")
        self.bad_look(1, "plan 1 3\n")
        self.bad_look(2, "plan 0 1 999 7\n")
        self.bad_look(1, "plan 2 3 2 1\n")
        self.bad_look(3, "plan 0 0 0 3\n")
        with self.assertRaises(BadLook):
            read_plan(make_sky(), "plan 0\n")

    def test_the_form_comes_ahead_of_the_names(self):
        self.bad_plan(1, 8, "plan 3 x\n")
        self.bad_plan(1, 7, "plan 3")
        self.bad_plan(2, 1, "plan 3\n\n")

    def test_no_plans(self):
        due = [("plan 0 1\n", "turning", 1), ("plan 2 1\n", "order", 1), ("plan 0 2\n", "wish", 1)]
        for text, word, at in due:
            with self.assertRaises(NoPlan) as caught:
                read_plan(EXAMPLE, text)
            self.assertEqual((caught.exception.word, caught.exception.at), (word, at))
        with self.assertRaises(NoPlan) as caught:
            read_plan(make_sky([(0, 0, 1, 0, 7)]), "plan 0\n")
        self.assertEqual((caught.exception.word, caught.exception.at), ("room", 0))

    def test_all_short_lists(self):
        for seed in range(30):
            sky = chance_sky(seed)
            for names in itertools.product(range(len(sky[0])), repeat=2):
                told = naive_wrong(sky, list(names))
                if told is None:
                    self.assertEqual(read_plan(sky, write_plan(names)), list(names))
                    continue
                with self.assertRaises(NoPlan) as caught:
                    read_plan(sky, write_plan(names))
                self.assertEqual((caught.exception.word, caught.exception.at), told)


class Report(Texts):
    def test_of_the_empty_plan(self):
        self.assertEqual(report(EXAMPLE, []), "worth 0\n")
        self.assertEqual(report(make_sky(), []), "worth 0\n")

    def test_turning_and_levels(self):
        looks = [(2, 0, 3, -90, 4), (0, 10, 2, 90, 5), (1, 200, 20, 89, 1)]
        sky = make_sky(looks, [50, 0, 49], [(3, 6, 1), (11, 13, 1)], 10, 45)
        self.assertEqual(
            report(sky, [0, 1, 2]),
            "look 0 from 0 to 3 turn 0 store 4\n"
            "look 1 from 10 to 12 turn 4 store 5\n"
            "look 2 from 200 to 220 turn 1 store 5\n"
            "worth 99\n",
        )
        self.assertEqual(report(sky, [2]), "look 2 from 200 to 220 turn 0 store 1\nworth 0\n")

    def test_all_plans_tick_by_tick(self):
        for seed in range(40):
            sky = chance_sky(seed)
            for plan in every_plan(sky):
                told = []
                for at, (look, level) in enumerate(zip(plan, run_store(sky, plan)[1])):
                    _, start, length, _, _ = sky[0][look]
                    ticks = naive_turning(sky, plan[at - 1], look) if at else 0
                    told.append(f"look {look} from {start} to {start + length} turn {ticks} store {level}")
                told.append(f"worth {naive_worth(sky, plan)}")
                self.assertEqual(report(sky, plan), "\n".join(told) + "\n")


class Arguments(Texts):
    def test_nothing_is_changed_and_lists_are_new(self):
        keeps(self, write_sky, SKY)
        keeps(self, read_sky, TEXT)
        keeps(self, write_plan, [1, 2])
        keeps(self, read_plan, SKY, "plan 0 1\n")
        keeps(self, report, SKY, [0, 1])

    def test_kinds_of_what_is_told(self):
        self.assertTrue(is_plan(SKY, read_plan(SKY, "plan 0 1\n")))
        self.assertIs(type(read_plan(SKY, "plan 0 1\n")), list)
        self.assertEqual([type(part) for part in read_sky(TEXT)], [list, list, list, int, int])
        self.assertIs(type(read_sky(TEXT)), tuple)


if __name__ == "__main__":
    unittest.main()

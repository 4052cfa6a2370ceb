"""Texts: skies and plans written and read, and the report of a plan (points 15 to 19)."""

from skypasses.errors import BadLook, BadText, NoPlan
from skypasses.skies import NO_LOOK, check_sky, end_of, levels, start_of, turning, worth_of, wrong_in

DIGITS = "0123456789"
MOST_DIGITS = 3

# The place of the angle among the words of a line `look`: the only number that may have a sign.
ANGLE_PLACE = 4

# The first words that a line may have behind a line with this first word.
HEADS_BEHIND = {
    "turn": ("store",),
    "store": ("wish", "ear", "look"),
    "wish": ("wish", "ear", "look"),
    "ear": ("ear", "look"),
    "look": ("look",),
    "plan": (),
}

# How many numbers stand behind the first word of a line; behind `plan` there are as many as one likes.
NUMBERS_BEHIND = {"turn": 1, "store": 1, "wish": 1, "ear": 3, "look": 5}


def line_with(head, numbers):
    """Return the line with this first word and these numbers, ended by a newline."""
    return head + "".join([f" {number}" for number in numbers]) + "\n"


def write_sky(sky):
    """Return the text of the sky."""
    looks, worths, ears, capacity, turn = sky
    lines = [line_with("turn", [turn]), line_with("store", [capacity])]
    lines.extend([line_with("wish", [worth]) for worth in worths])
    lines.extend([line_with("ear", ear) for ear in ears])
    lines.extend([line_with("look", look) for look in looks])
    return "".join(lines)


def write_plan(names):
    """Return the text of the list of numbers."""
    return line_with("plan", names)


def lines_of(text):
    """Return the lines of the text, without the newlines that end them."""
    lines = text.split("\n")
    # Behind the last newline, and in the text without any sign, there is no line.
    if lines[-1] == "":
        lines.pop()
    return lines


def is_number(word):
    """Return True if the word is a number as point 15 says, without a sign, otherwise False."""
    if not 1 <= len(word) <= MOST_DIGITS:
        return False
    # Python's own test for digits takes signs of other scripts, too.
    for sign in word:
        if sign not in DIGITS:
            return False
    return word == "0" or not word.startswith("0")


def is_angle(word):
    """Return True if the word is a number as point 15 says, perhaps below 0, otherwise False."""
    if word.startswith("-"):
        return word != "-0" and is_number(word[1:])
    return is_number(word)


def is_right_word(head, place, word):
    """Return True if the word may stand at this place, from 1 on, of a line with this first word."""
    if head in NUMBERS_BEHIND and place > NUMBERS_BEHIND[head]:
        return False
    if head == "look" and place == ANGLE_PLACE:
        return is_angle(word)
    return is_number(word)


def wrong_place(words, heads):
    """Return the place of the first word of a line that is wrong, or None; `heads` may be the first one."""
    head = words[0]
    if head not in heads:
        return 0
    for place, word in enumerate(words):
        if place > 0 and not is_right_word(head, place, word):
            return place
    return None


def has_too_few(words):
    """Return True if words are missing behind those of the line, otherwise False."""
    return len(words) - 1 < NUMBERS_BEHIND.get(words[0], 0)


def wrong_column(line, heads, is_ended):
    """Return the column of what is wrong with the form of the line, or None."""
    words = line.split(" ")
    place = wrong_place(words, heads)
    if place is not None:
        return 1 + sum([len(word) + 1 for word in words[:place]])
    if has_too_few(words) or not is_ended:
        return len(line) + 1
    return None


def read_rows(text, first, needed):
    """Return the lines of the text as tuples of the first word and a list of numbers, or raise BadText.

    `first` is the first word of the first line; so many lines as `needed` tells may not be missing.
    """
    lines = lines_of(text)
    heads = (first,)
    rows = []
    for number, line in enumerate(lines, start=1):
        column = wrong_column(line, heads, number < len(lines) or text.endswith("\n"))
        if column is not None:
            raise BadText(number, column)
        head, *words = line.split(" ")
        rows.append((head, [int(word) for word in words]))
        heads = HEADS_BEHIND[head]
    if len(rows) < needed:
        raise BadText(len(rows) + 1, 1)
    return rows


def numbers_with(rows, wanted):
    """Return the lists of numbers of those lines that have the wanted first word."""
    return [numbers for head, numbers in rows if head == wanted]


def read_sky(text):
    """Return the sky that the text tells; raise BadText, then what check_sky raises."""
    rows = read_rows(text, "turn", 2)
    looks = [tuple(numbers) for numbers in numbers_with(rows, "look")]
    worths = [numbers[0] for numbers in numbers_with(rows, "wish")]
    ears = [tuple(numbers) for numbers in numbers_with(rows, "ear")]
    capacity = numbers_with(rows, "store")[0][0]
    turn = numbers_with(rows, "turn")[0][0]
    sky = (looks, worths, ears, capacity, turn)
    check_sky(sky)
    return sky


def read_plan(sky, text):
    """Return the plan of the sky that the text tells; raise BadText, BadLook, NoPlan."""
    names = read_rows(text, "plan", 1)[0][1]
    for at, name in enumerate(names):
        if name >= len(sky[0]):
            raise BadLook(at)
    wrong = wrong_in(sky, names)
    if wrong is not None:
        word, at = wrong
        raise NoPlan(word, at)
    return names


def report(sky, plan):
    """Return the report of the plan."""
    lines = []
    ahead = NO_LOOK
    for look, level in zip(plan, levels(sky, plan)):
        ticks = 0 if ahead == NO_LOOK else turning(sky, ahead, look)
        start = start_of(sky, look)
        end = end_of(sky, look)
        lines.append(f"look {look} from {start} to {end} turn {ticks} store {level}\n")
        ahead = look
    lines.append(line_with("worth", [worth_of(sky, plan)]))
    return "".join(lines)

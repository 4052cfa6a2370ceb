"""Skies: looks, ears, the store, and plans (points 1 to 9)."""

from skypasses.errors import BadNumber, BadSize, BadTime, BadWish

LAST_TIME = 200
MOST_LENGTH = 20
MOST_ANGLE = 90
MOST_SIZE = 30
MOST_RATE = 30
MOST_CAPACITY = 30
MOST_TURN = 90
MOST_WORTH = 99
MOST_LOOKS = 16
MOST_WISHES = 6
MOST_EARS = 4

# What stands for the look ahead of the first one.
NO_LOOK = -1


def is_whole(value):
    """Return True if the value is a whole number, otherwise False."""
    # Python counts True and False among the whole numbers, the document does not.
    return isinstance(value, int) and not isinstance(value, bool)


def is_within(value, least, greatest):
    """Return True if the value is a whole number within the bounds, otherwise False."""
    return is_whole(value) and least <= value <= greatest


def check_worths(worths):
    """Raise the first error that is due for the worths."""
    if not 1 <= len(worths) <= MOST_WISHES:
        raise BadSize()
    for worth in worths:
        if not is_within(worth, 0, MOST_WORTH):
            raise BadNumber()


def check_look(look, wishes, earliest):
    """Raise the first error that is due for a look among so many wishes, which starts at `earliest` or later."""
    wish, start, length, angle, size = look
    if not is_within(wish, 0, wishes - 1):
        raise BadWish()
    if not is_within(start, earliest, LAST_TIME) or not is_within(length, 1, MOST_LENGTH):
        raise BadTime()
    if not is_within(angle, -MOST_ANGLE, MOST_ANGLE) or not is_within(size, 1, MOST_SIZE):
        raise BadNumber()


def check_looks(looks, wishes):
    """Raise the first error that is due for the looks of a sky with so many wishes."""
    if len(looks) > MOST_LOOKS:
        raise BadSize()
    earliest = 0
    for look in looks:
        check_look(look, wishes, earliest)
        earliest = look[1]


def check_ear(ear, earliest):
    """Raise the first error that is due for an ear, which begins at `earliest` or later."""
    begin, end, rate = ear
    if not is_within(begin, earliest, LAST_TIME) or not is_within(end, begin + 1, LAST_TIME):
        raise BadTime()
    if not is_within(rate, 1, MOST_RATE):
        raise BadNumber()


def check_ears(ears):
    """Raise the first error that is due for the ears."""
    if len(ears) > MOST_EARS:
        raise BadSize()
    earliest = 0
    for ear in ears:
        check_ear(ear, earliest)
        earliest = ear[1]


def check_sky(sky):
    """Return None, or raise the first error that is due (point 9)."""
    looks, worths, ears, capacity, turn = sky
    check_worths(worths)
    check_looks(looks, len(worths))
    check_ears(ears)
    if not is_within(capacity, 1, MOST_CAPACITY) or not is_within(turn, 1, MOST_TURN):
        raise BadNumber()


def copy_of(sky):
    """Return a sky that is equal to this one, with lists of its own."""
    looks, worths, ears, capacity, turn = sky
    return (list(looks), list(worths), list(ears), capacity, turn)


def wish_of(sky, look):
    """Return the wish that the look with this name is for."""
    return sky[0][look][0]


def start_of(sky, look):
    """Return the start of the look with this name."""
    return sky[0][look][1]


def end_of(sky, look):
    """Return the end of the look with this name."""
    return sky[0][look][1] + sky[0][look][2]


def angle_of(sky, look):
    """Return the angle of the look with this name."""
    return sky[0][look][3]


def size_of(sky, look):
    """Return the size of the look with this name."""
    return sky[0][look][4]


def turning(sky, first, second):
    """Return the ticks of turning from the angle of the first look to that of the second one."""
    degrees = abs(angle_of(sky, second) - angle_of(sky, first))
    turn = sky[4]
    return (degrees + turn - 1) // turn


def drawn(ears, since, until):
    """Return what the ears take from `since` to `until` if the store never comes to be empty."""
    total = 0
    for begin, end, rate in ears:
        total += rate * max(0, min(end, until) - max(begin, since))
    return total


def emptied(sky, amount, *, since, until):
    """Return what is left at `until` of the amount that is in the store at `since`."""
    # Nothing comes in between, so a store that is empty once stays empty, whatever ears come later.
    return max(0, amount - drawn(sky[2], since, until))


def store_at(sky, last, store, time):
    """Return what is left at the time of what was in the store at the end of the look `last`."""
    since = 0 if last == NO_LOOK else end_of(sky, last)
    return emptied(sky, store, since=since, until=time)


def is_in_time(sky, last, look):
    """Return True if the look starts late enough behind the look `last`, otherwise False."""
    if last == NO_LOOK:
        return True
    return start_of(sky, look) >= end_of(sky, last) + turning(sky, last, look)


def needed_for(sky, last, store, look):
    """Return what is in the store when the look starts, and the look's size, together."""
    return store_at(sky, last, store, start_of(sky, look)) + size_of(sky, look)


def level_behind(sky, last, store, look):
    """Return what is in the store at the end of the look, the look's size with it."""
    return store_at(sky, last, store, end_of(sky, look)) + size_of(sky, look)


def wrong_next(sky, last, store, taken, look):
    """Return the first word of point 8 that is so for the look behind a plan, or None.

    The plan has `last` as its last look, `store` as its last level, and looks for the wishes in `taken`.
    """
    if look <= last:
        return "order"
    if wish_of(sky, look) in taken:
        return "wish"
    if not is_in_time(sky, last, look):
        return "turning"
    if needed_for(sky, last, store, look) > sky[3]:
        return "room"
    return None


def wrong_in(sky, names):
    """Return what is wrong with the list of names of looks (point 8), or None if it is a plan."""
    last = NO_LOOK
    store = 0
    taken = []
    for at, look in enumerate(names):
        word = wrong_next(sky, last, store, taken, look)
        if word is not None:
            return (word, at)
        store = level_behind(sky, last, store, look)
        taken.append(wish_of(sky, look))
        last = look
    return None


def is_plan(sky, names):
    """Return True if the list of names of looks is a plan, otherwise False."""
    return wrong_in(sky, names) is None


def worth_of(sky, names):
    """Return the sum of the worths of the different wishes that these looks are for."""
    worths = sky[1]
    return sum([worths[wish] for wish in sorted({wish_of(sky, look) for look in names})])


def levels(sky, plan):
    """Return what is in the store at the end of each look of the plan."""
    found = []
    last = NO_LOOK
    store = 0
    for look in plan:
        store = level_behind(sky, last, store, look)
        found.append(store)
        last = look
    return found

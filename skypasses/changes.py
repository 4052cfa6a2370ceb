"""Changes: skies with other looks, other worths, and skies that are the same in another form (points 60 to 63)."""

from skypasses.errors import BadNumber, BadTime
from skypasses.late import plans_on, wishes_of_plan
from skypasses.skies import (
    LAST_TIME, MOST_CAPACITY, MOST_RATE, MOST_SIZE, check_sky, is_whole, is_within, worth_of,
)


def with_looks(sky, looks):
    """Return the sky with these looks instead of its own ones."""
    _, worths, ears, capacity, turn = sky
    return (looks, list(worths), list(ears), capacity, turn)


def without_look(sky, look):
    """Return the sky without the look with this name."""
    looks = sky[0]
    return with_looks(sky, looks[:look] + looks[look + 1:])


def place_for(looks, start):
    """Return the position at which a look with this start is put into the looks; the start may be any value."""
    if not is_whole(start):
        return len(looks)
    return len([look for look in looks if look[1] <= start])


def with_look(sky, look):
    """Return the sky with the look put in, or raise the first error that is due."""
    looks = sky[0]
    at = place_for(looks, look[1])
    later = with_looks(sky, [*looks[:at], look, *looks[at:]])
    check_sky(later)
    return later


def plans_with_worths(sky):
    """Return the list of all plans with their worths, as tuples."""
    return [(plan, worth_of(sky, plan)) for plan in plans_on(sky)]


def losses(sky):
    """Return the list of the losses of the looks."""
    rows = plans_with_worths(sky)
    best = max([worth for _, worth in rows])
    # The plans of the sky without a look are those that do not have it.
    return [best - max([worth for plan, worth in rows if look not in plan]) for look in range(len(sky[0]))]


def line_of(sky, wish):
    """Return the greatest worth without the wish, and that of the other wishes with it, or None."""
    rows = [(wishes_of_plan(sky, plan), worth) for plan, worth in plans_with_worths(sky)]
    aside = max([worth for wishes, worth in rows if wish not in wishes])
    along = max([worth - sky[1][wish] for wishes, worth in rows if wish in wishes], default=None)
    return (aside, along)


def threshold(sky, wish):
    """Return the threshold of the wish, or None if there is none."""
    aside, along = line_of(sky, wish)
    # Never below 0: the other looks of a plan for the wish are a plan without it.
    return None if along is None else aside - along


def mirrored(sky):
    """Return the sky mirrored."""
    return with_looks(sky, [(wish, start, length, -angle, size) for wish, start, length, angle, size in sky[0]])


def moved(sky, by):
    """Return the sky moved by the number, or raise BadTime if a time would be none."""
    looks, worths, ears, capacity, turn = sky
    later = [(wish, start + by, length, angle, size) for wish, start, length, angle, size in looks]
    heard = [(begin + by, end + by, rate) for begin, end, rate in ears]
    times = [look[1] for look in later] + [ear[0] for ear in heard] + [ear[1] for ear in heard]
    if not all([is_within(time, 0, LAST_TIME) for time in times]):
        raise BadTime()
    return (later, list(worths), heard, capacity, turn)


def turned_back(sky):
    """Return the sky turned back, or raise BadTime if a look ends behind the last time."""
    looks, worths, ears, capacity, turn = sky
    back = []
    for wish, start, length, angle, size in reversed(looks):
        if start + length > LAST_TIME:
            raise BadTime()
        back.append((wish, LAST_TIME - start - length, length, angle, size))
    heard = [(LAST_TIME - end, LAST_TIME - begin, rate) for begin, end, rate in reversed(ears)]
    # Of those with the same start the one with the greater name stands first in `back`, and sorting leaves it so.
    return (sorted(back, key=lambda look: look[1]), list(worths), heard, capacity, turn)


def scaled(sky, by):
    """Return the sky scaled by the number, or raise BadNumber if a number would be too great."""
    looks, worths, ears, capacity, turn = sky
    larger = [(wish, start, length, angle, size * by) for wish, start, length, angle, size in looks]
    faster = [(begin, end, rate * by) for begin, end, rate in ears]
    if any([look[4] > MOST_SIZE for look in larger]) or any([ear[2] > MOST_RATE for ear in faster]):
        raise BadNumber()
    if capacity * by > MOST_CAPACITY:
        raise BadNumber()
    return (larger, list(worths), faster, capacity * by, turn)

"""Room: what a greater store and more ears would bring (points 41 to 44)."""

from skypasses.best import best_worth, gain_by
from skypasses.failing import without_ears
from skypasses.skies import NO_LOOK, is_in_time, is_plan, level_behind, needed_for, size_of, wish_of
from skypasses.ways import parts_of

# The least capacity that a sky can have.
LEAST_CAPACITY = 1


def with_capacity(sky, capacity):
    """Return the sky with this capacity, of any size, instead of its own one."""
    looks, worths, ears, _, turn = sky
    return (looks, worths, ears, capacity, turn)


def is_timely(sky, names):
    """Return True if nothing but room can be wrong with the list of names of looks, otherwise False."""
    # With room for all looks at once, room is not what is wrong.
    enough = sum([size_of(sky, look) for look in range(len(sky[0]))])
    return is_plan(with_capacity(sky, enough), names)


def need_of(sky, names):
    """Return the need of the timely list."""
    last = NO_LOOK
    store = 0
    need = 0
    for look in names:
        need = max(need, needed_for(sky, last, store, look))
        store = level_behind(sky, last, store, look)
        last = look
    return need


def needs_and_worths(sky):
    """Return the list of the needs and the worths of all timely lists, as tuples."""
    found = []
    waiting = [(NO_LOOK, 0, (), 0, 0)]
    while waiting:
        last, store, taken, need, worth = waiting.pop()
        found.append((need, worth))
        for look in range(last + 1, len(sky[0])):
            wish = wish_of(sky, look)
            if wish not in taken and is_in_time(sky, last, look):
                level = level_behind(sky, last, store, look)
                needed = max(need, needed_for(sky, last, store, look))
                waiting.append((look, level, (*taken, wish), needed, worth + gain_by(sky, look)))
    return found


def steps(sky):
    """Return the list of the steps: the capacities for which the greatest worth is greater, with this worth."""
    rows = sorted([(max(LEAST_CAPACITY, need), worth) for need, worth in needs_and_worths(sky)])
    # Of each capacity the greatest worth comes last, and stays. The list without looks is among those of the first.
    greatest = {capacity: worth for capacity, worth in rows}
    found = []
    for capacity, worth in greatest.items():
        if not found or worth > found[-1][1]:
            found.append((capacity, worth))
    return found


def need_for(sky, worth):
    """Return the need for the worth, or None if there is none."""
    for capacity, greatest in steps(sky):
        if greatest >= worth:
            return capacity
    return None


def gain_of_room(sky, more):
    """Return by how much the greatest worth is greater if the capacity is greater by `more`."""
    return best_worth(with_capacity(sky, sky[3] + more)) - best_worth(sky)


def with_ears(sky, names):
    """Return the sky with the ears with these names alone."""
    return without_ears(sky, [ear for ear in range(len(sky[2])) if ear not in names])


def idle_ears(sky):
    """Return the ascending list of the idle ears."""
    best = best_worth(sky)
    return [ear for ear in range(len(sky[2])) if best_worth(without_ears(sky, [ear])) == best]


def fewest_ears(sky):
    """Return the list of the sets of ears that are enough, those with the least number of ears, ascending."""
    best = best_worth(sky)
    parts = sorted(parts_of(list(range(len(sky[2])))))
    enough = [part for part in parts if best_worth(with_ears(sky, part)) == best]
    least = min([len(part) for part in enough])
    return [list(part) for part in enough if len(part) == least]

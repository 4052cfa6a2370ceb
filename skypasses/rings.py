"""Rings: satellites, passes and gaps, and the looks that passes make (points 10 to 14)."""

from math import gcd, lcm

# The horizon up to which looks are made, and the degrees of one step on the ring.
LOOK_HORIZON = 200
STEP_DEGREES = 3


def place_of(ring, satellite, time):
    """Return the cell over which the satellite is at the time."""
    first, step, _ = satellite
    return (first + step * time) % ring


def steps_up(ring, first, second):
    """Return the number of steps from the first cell up to the second one."""
    return (second - first) % ring


def way(ring, first, second):
    """Return the way between two cells."""
    up = steps_up(ring, first, second)
    return min(up, ring - up)


def sees(ring, satellite, cell, time):
    """Return True if the satellite sees the cell at the time, otherwise False."""
    reach = satellite[2]
    return way(ring, place_of(ring, satellite, time), cell) <= reach


def passes(ring, satellite, cell, *, horizon):
    """Return the list of the passes of the cell up to the horizon, as tuples (from, to)."""
    found = []
    for time in range(horizon + 1):
        if not sees(ring, satellite, cell, time):
            continue
        if found and found[-1][1] == time - 1:
            found[-1] = (found[-1][0], time)
        else:
            found.append((time, time))
    return found


def period_of(ring, satellite):
    """Return the period of the satellite alone."""
    step = satellite[1]
    return ring // gcd(ring, step)


def period(ring, fleet):
    """Return the period of the fleet."""
    common = 1
    for satellite in fleet:
        common = lcm(common, period_of(ring, satellite))
    return common


def is_seen(ring, fleet, cell, time):
    """Return True if some satellite of the fleet sees the cell at the time, otherwise False."""
    return any([sees(ring, satellite, cell, time) for satellite in fleet])


def greatest_gap(ring, fleet, cell):
    """Return the greatest gap of the cell for the fleet, or None if it is never seen."""
    # Two periods, because a gap can begin in one and end in the next one.
    times = 2 * period(ring, fleet)
    gap = 0
    greatest = 0
    for time in range(times):
        gap = 0 if is_seen(ring, fleet, cell, time) else gap + 1
        greatest = max(greatest, gap)
    return None if greatest == times else greatest


def is_ever_seen(ring, fleet, cell, horizon):
    """Return True if some satellite sees the cell at some time up to the horizon, otherwise False."""
    for time in range(horizon + 1):
        if is_seen(ring, fleet, cell, time):
            return True
    return False


def seen_by(ring, fleet, *, horizon):
    """Return the ascending list of the cells that the fleet sees up to the horizon."""
    return [cell for cell in range(ring) if is_ever_seen(ring, fleet, cell, horizon)]


def angle_to(ring, place, cell):
    """Return the angle at which the cell is seen from the place."""
    up = steps_up(ring, place, cell)
    lesser = way(ring, place, cell)
    return STEP_DEGREES * up if up == lesser else -STEP_DEGREES * lesser


def looks_for(ring, satellite, wish, told):
    """Return the looks for the wish with this name, told as (cell, length, size), by their starts."""
    cell, length, size = told
    looks = []
    for begin, end in passes(ring, satellite, cell, horizon=LOOK_HORIZON):
        if end - begin + 1 >= length and begin <= LOOK_HORIZON - length:
            angle = angle_to(ring, place_of(ring, satellite, begin), cell)
            looks.append((wish, begin, length, angle, size))
    return looks


def looks_of(ring, satellite, wishes):
    """Return the looks that the passes make for the wishes, by their starts, then by their wishes."""
    looks = []
    for wish, told in enumerate(wishes):
        looks.extend(looks_for(ring, satellite, wish, told))
    return sorted(looks, key=lambda look: (look[1], look[0]))

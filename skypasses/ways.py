"""Ways: what can be gained from a state on, and tables of bounds for it, for skies and for fleets alike.

`place` is the sky or the fleet to which the states belong. `ways_on` is a function of a place and a state; it
returns the list of the ways to go on, as tuples of the worth that is gained and the state behind. Each way leads
to a greater state: so in ascending order all states behind a state come later than it.

Here is also what several files need of lists: whether one ascends, and all parts of one.
"""


def reached_from(place, state, ways_on):
    """Return the ascending list of the states to which one can come from this one, itself included."""
    found = {state: True}
    waiting = [state]
    while waiting:
        here = waiting.pop()
        for _, behind in ways_on(place, here):
            if behind not in found:
                found[behind] = True
                waiting.append(behind)
    return sorted(found)


def rests_from(place, state, ways_on):
    """Return a dict with the rests of all states to which one can come from this one, itself included."""
    rests = {}
    for here in reversed(reached_from(place, state, ways_on)):
        rests[here] = max([gain + rests[behind] for gain, behind in ways_on(place, here)], default=0)
    return rests


def best_behind(place, state, ways_on, rests):
    """Return the list of the states behind those ways that reach the rest of the state, in their order."""
    return [behind for gain, behind in ways_on(place, state) if gain + rests[behind] == rests[state]]


def ascends(parts):
    """Return True if each thing of the list is greater than the one ahead of it, otherwise False."""
    for at in range(1, len(parts)):
        if parts[at] <= parts[at - 1]:
            return False
    return True


def bounds_of(table):
    """Return a dict with the bounds of the states of the table."""
    return {row[:-1]: row[-1] for row in table}


def are_rows(place, table, is_state):
    """Return True if the table ascends and has only states with bounds from 0 on, otherwise False."""
    for row in table:
        if row[-1] < 0 or not is_state(place, row[:-1]):
            return False
    return ascends([row[:-1] for row in table])


def are_bounds(place, bounds, ways_on):
    """Return True if each bound is enough for each way to go on from its state, otherwise False."""
    for state in bounds:
        for gain, behind in ways_on(place, state):
            if behind not in bounds or bounds[state] < gain + bounds[behind]:
                return False
    return True


def is_right(place, table, beginning, is_state, ways_on):
    """Return True if the table is right for the place (points 23 and 28), otherwise False."""
    if not are_rows(place, table, is_state):
        return False
    bounds = bounds_of(table)
    return beginning in bounds and are_bounds(place, bounds, ways_on)


def parts_of(names):
    """Return the list of the tuples with some of the names, or none, in their order."""
    found = [()]
    for name in names:
        found = found + [(*part, name) for part in found]
    return found

"""Best plans: states, the looks that can come next, rests, and tables that show them (points 20 to 24)."""

from skypasses.skies import NO_LOOK, is_plan, level_behind, levels, wish_of, worth_of, wrong_next
from skypasses.ways import ascends, best_behind, bounds_of, is_right, rests_from

# The state behind the plan without looks.
BEGINNING = (-1, 0, ())


def state_behind(sky, plan):
    """Return the state behind the plan."""
    if not plan:
        return BEGINNING
    return (plan[-1], levels(sky, plan)[-1], tuple(sorted([wish_of(sky, look) for look in plan])))


def next_looks(sky, state):
    """Return the ascending list of the looks that can come next in the state."""
    last, store, taken = state
    # No look up to `last` starts late enough behind it.
    return [look for look in range(last + 1, len(sky[0])) if wrong_next(sky, last, store, taken, look) is None]


def after_look(sky, state, look):
    """Return the state behind the look, which can come next."""
    last, store, taken = state
    return (look, level_behind(sky, last, store, look), tuple(sorted([*taken, wish_of(sky, look)])))


def gain_by(sky, look):
    """Return the worth of the wish that the look is for."""
    return sky[1][wish_of(sky, look)]


def ways_by_looks(sky, state):
    """Return the list of the worths gained by the looks that can come next, and of the states behind them."""
    return [(gain_by(sky, look), after_look(sky, state, look)) for look in next_looks(sky, state)]


def best_looks(sky, state, rests):
    """Return the ascending list of the looks that can come next and reach the rest of the state."""
    return [last for last, _, _ in best_behind(sky, state, ways_by_looks, rests)]


def rest_of(sky, state):
    """Return the rest of the state."""
    return rests_from(sky, state, ways_by_looks)[state]


def best_next(sky, state):
    """Return the ascending list of the looks that can come next and reach the rest of the state."""
    return best_looks(sky, state, rests_from(sky, state, ways_by_looks))


def best_worth(sky):
    """Return the greatest worth of the sky."""
    return rest_of(sky, BEGINNING)


def best_plans(sky, *, most):
    """Return the list of the first best plans, in order, at most so many as `most` tells."""
    rests = rests_from(sky, BEGINNING, ways_by_looks)
    found = []
    waiting = [[]]
    while waiting and len(found) < most:
        plan = waiting.pop()
        state = state_behind(sky, plan)
        if rests[state] == 0:
            found.append(plan)
        # The last one that is put there is gone on from first: so plans come in the order of lists.
        for look in reversed(best_looks(sky, state, rests)):
            waiting.append([*plan, look])
    return found


def best_plan(sky):
    """Return the first best plan."""
    return best_plans(sky, most=1)[0]


def count_plans_from(sky, state):
    """Return the number of the ways to go on from the state, with the one of taking nothing any more."""
    return 1 + sum([count_plans_from(sky, behind) for _, behind in ways_by_looks(sky, state)])


def count_plans(sky):
    """Return the number of the plans."""
    return count_plans_from(sky, BEGINNING)


def count_best_from(sky, state, rests):
    """Return the number of the ways to go on from the state that reach its rest."""
    stops = 1 if rests[state] == 0 else 0
    states = best_behind(sky, state, ways_by_looks, rests)
    return stops + sum([count_best_from(sky, behind, rests) for behind in states])


def count_best(sky):
    """Return the number of the best plans."""
    return count_best_from(sky, BEGINNING, rests_from(sky, BEGINNING, ways_by_looks))


def table_of(sky):
    """Return the table of all reached states with their rests."""
    rests = rests_from(sky, BEGINNING, ways_by_looks)
    return sorted([(*state, rest) for state, rest in rests.items()])


def is_state(sky, state):
    """Return True if the three parts are a state of the sky, otherwise False."""
    last, store, taken = state
    if not NO_LOOK <= last < len(sky[0]) or not 0 <= store <= sky[3]:
        return False
    return ascends(taken) and all([0 <= wish < len(sky[1]) for wish in taken])


def is_table(sky, table):
    """Return True if the table is right (point 23), otherwise False."""
    return is_right(sky, table, BEGINNING, is_state, ways_by_looks)


def shows_best(sky, plan, table):
    """Return True if the table shows that the list is a best plan, otherwise False."""
    if not is_plan(sky, plan) or not is_table(sky, table):
        return False
    return bounds_of(table)[BEGINNING] == worth_of(sky, plan)

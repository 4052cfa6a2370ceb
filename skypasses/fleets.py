"""Fleets: several skies with the same wishes, and what they reach together (points 26 to 30)."""

from skypasses.best import after_look, gain_by, is_state, next_looks
from skypasses.errors import BadNumber, BadSize
from skypasses.skies import NO_LOOK, check_sky, is_plan, wish_of, worth_of
from skypasses.ways import ascends, best_behind, bounds_of, is_right, rests_from

MOST_SKIES = 3

# The state of a fleet ahead of all its looks.
FLEET_BEGINNING = (0, -1, 0, ())


def check_fleet(fleet):
    """Return None, or raise the first error that is due (point 30)."""
    if not 1 <= len(fleet) <= MOST_SKIES:
        raise BadSize()
    for sky in fleet:
        check_sky(sky)
    for sky in fleet:
        if sky[1] != fleet[0][1]:
            raise BadNumber()


def wishes_of(fleet, plans):
    """Return the list of the wishes that the looks of all plans are for, in the order of these looks."""
    return [wish_of(sky, look) for sky, plan in zip(fleet, plans) for look in plan]


def is_fleet_plan(fleet, plans):
    """Return True if the list is a fleet plan, otherwise False."""
    for sky, plan in zip(fleet, plans):
        if not is_plan(sky, plan):
            return False
    return ascends(sorted(wishes_of(fleet, plans)))


def worth_together(fleet, plans):
    """Return the worth of the fleet plan."""
    return sum([worth_of(sky, plan) for sky, plan in zip(fleet, plans)])


def whose(fleet, plans):
    """Return a list with the name of the sky that looks at it, or None, for each wish."""
    found = [None for _ in fleet[0][1]]
    for name, sky in enumerate(fleet):
        for look in plans[name]:
            found[wish_of(sky, look)] = name
    return found


def is_in_last_sky(fleet, state):
    """Return True if there is no next sky behind the one of the state, otherwise False."""
    return state[0] == len(fleet) - 1


def ways_of_fleet(fleet, state):
    """Return the list of the worths gained by the ways to go on from the state, and of the states behind them.

    The way to the next sky comes first, then the looks, ascending: this is the order of the fleet plans, since
    a plan that stops comes ahead of the longer ones.
    """
    name, last, store, taken = state
    sky = fleet[name]
    here = (last, store, taken)
    ways = [] if is_in_last_sky(fleet, state) else [(0, (name + 1, NO_LOOK, 0, taken))]
    for look in next_looks(sky, here):
        behind = after_look(sky, here, look)
        ways.append((gain_by(sky, look), (name, *behind)))
    return ways


def fleet_rests(fleet):
    """Return a dict with the rests of all reached states of the fleet."""
    return rests_from(fleet, FLEET_BEGINNING, ways_of_fleet)


def can_stop(fleet, state, rests):
    """Return True if a best fleet plan that comes to the state can end there, otherwise False."""
    return is_in_last_sky(fleet, state) and rests[state] == 0


def fleet_worth(fleet):
    """Return the greatest worth of the fleet."""
    return fleet_rests(fleet)[FLEET_BEGINNING]


def fleet_plan(fleet):
    """Return the first best fleet plan."""
    rests = fleet_rests(fleet)
    plans = [[] for _ in fleet]
    state = FLEET_BEGINNING
    while not can_stop(fleet, state, rests):
        state = best_behind(fleet, state, ways_of_fleet, rests)[0]
        name, last, _, _ = state
        if last != NO_LOOK:
            plans[name].append(last)
    return plans


def count_fleet_best(fleet):
    """Return the number of the best fleet plans."""
    rests = fleet_rests(fleet)
    counts = {}
    # From the greatest state down: what is behind a state is counted ahead of it.
    for state in sorted(rests, reverse=True):
        stops = 1 if can_stop(fleet, state, rests) else 0
        states = best_behind(fleet, state, ways_of_fleet, rests)
        counts[state] = stops + sum([counts[behind] for behind in states])
    return counts[FLEET_BEGINNING]


def best_states(fleet):
    """Return the list of the states to which best fleet plans come."""
    rests = fleet_rests(fleet)
    found = {FLEET_BEGINNING: True}
    # Up from the least state: whether a state is found is known when its turn comes.
    for state in sorted(rests):
        if state in found:
            for behind in best_behind(fleet, state, ways_of_fleet, rests):
                found[behind] = True
    return list(found)


def skies_for(fleet, wish):
    """Return the ascending list of the names of the skies that look at the wish in some best fleet plan."""
    names = {}
    for name, last, _, _ in best_states(fleet):
        if last != NO_LOOK and wish_of(fleet[name], last) == wish:
            names[name] = True
    return sorted(names)


def without_looks(sky):
    """Return the sky without any look."""
    _, worths, ears, capacity, turn = sky
    return ([], worths, ears, capacity, turn)


def loss_of(fleet, sky):
    """Return how much less the greatest worth of a fleet plan is in which this sky has no look."""
    others = [without_looks(part) if name == sky else part for name, part in enumerate(fleet)]
    return fleet_worth(fleet) - fleet_worth(others)


def fleet_table(fleet):
    """Return the fleet table of all reached states with their rests."""
    return sorted([(*state, rest) for state, rest in fleet_rests(fleet).items()])


def is_fleet_state(fleet, state):
    """Return True if the four parts are a state of the fleet, otherwise False."""
    name, last, store, taken = state
    return 0 <= name < len(fleet) and is_state(fleet[name], (last, store, taken))


def is_fleet_table(fleet, table):
    """Return True if the fleet table is right (point 28), otherwise False."""
    return is_right(fleet, table, FLEET_BEGINNING, is_fleet_state, ways_of_fleet)


def shows_fleet_best(fleet, plans, table):
    """Return True if the table shows that the list is a best fleet plan, otherwise False."""
    if not is_fleet_plan(fleet, plans) or not is_fleet_table(fleet, table):
        return False
    return bounds_of(table)[FLEET_BEGINNING] == worth_together(fleet, plans)

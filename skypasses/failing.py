"""Ears that fail: states at the starts of looks, sure worths, and rules of going on (points 31 to 37).

A state is a tuple `(look, last, amount, wishes, failed)`. All states behind a state are at the next look: so in
ascending order they come later than it.
"""

from skypasses.skies import NO_LOOK, emptied, end_of, is_in_time, size_of, start_of, wish_of, worth_of
from skypasses.ways import parts_of

LEAVE = "leave"
TAKE = "take"

# The time ahead of all times: ears that begin at 0 begin behind it.
BEFORE_ALL = -1


def without_ears(sky, names):
    """Return the sky without the ears with these names."""
    looks, worths, ears, capacity, turn = sky
    working = [ear for name, ear in enumerate(ears) if name not in names]
    return (list(looks), list(worths), working, capacity, turn)


def failings_among(names, most):
    """Return the ascending list of the failings that have at most so many ears, all of them among the names."""
    return sorted([part for part in parts_of(names) if len(part) <= most])


def beginning_ears(sky, since, until):
    """Return the list of the ears that begin behind the time `since` and not behind the time `until`."""
    return [name for name, ear in enumerate(sky[2]) if since < ear[0] <= until]


def first_states(sky, *, most):
    """Return the ascending list of the first states."""
    if not sky[0]:
        return []
    names = beginning_ears(sky, BEFORE_ALL, start_of(sky, 0))
    return [(0, NO_LOOK, 0, (), failed) for failed in failings_among(names, most)]


def may_be_taken(sky, state):
    """Return True if the look of the state may be taken, otherwise False."""
    look, last, amount, wishes, _ = state
    if wish_of(sky, look) in wishes or not is_in_time(sky, last, look):
        return False
    return amount + size_of(sky, look) <= sky[3]


def moves_of(sky, state):
    """Return the list of the moves of the state."""
    return [LEAVE, TAKE] if may_be_taken(sky, state) else [LEAVE]


def gain_of(sky, state, move):
    """Return the gain of the move."""
    return sky[1][wish_of(sky, state[0])] if move == TAKE else 0


def carried(sky, last, amount, *, since, until):
    """Return what is in the store at `until` if the amount is in it at `since` and `last` is the last look."""
    begin = since
    there = amount
    if last != NO_LOOK and since < end_of(sky, last) <= until:
        begin = end_of(sky, last)
        there = emptied(sky, amount, since=since, until=begin) + size_of(sky, last)
    return emptied(sky, there, since=begin, until=until)


def state_behind_move(sky, state, move, failed):
    """Return the state behind the move at the next look if just these ears have failed until then."""
    look, last, amount, wishes, _ = state
    if move == TAKE:
        last = look
        wishes = tuple(sorted([*wishes, wish_of(sky, look)]))
    since = start_of(sky, look)
    until = start_of(sky, look + 1)
    there = carried(without_ears(sky, failed), last, amount, since=since, until=until)
    return (look + 1, last, there, wishes, failed)


def is_last_look(sky, look):
    """Return True if there is no look behind this one, otherwise False."""
    return look == len(sky[0]) - 1


def states_behind(sky, state, move, *, most):
    """Return the ascending list of the states behind the move."""
    look, failed = state[0], state[4]
    if is_last_look(sky, look):
        return []
    names = beginning_ears(sky, start_of(sky, look), start_of(sky, look + 1))
    more = failings_among(names, most - len(failed))
    return sorted([state_behind_move(sky, state, move, (*failed, *part)) for part in more])


def ways_of_moves(place, state):
    """Return the list of the gains of the moves and of the states behind them, `"leave"` first.

    The place is a tuple of the sky and of how many ears fail at most.
    """
    sky, most = place
    moves = moves_of(sky, state)
    return [(gain_of(sky, state, move), states_behind(sky, state, move, most=most)) for move in moves]


def all_ways(place, states, ways_at):
    """Return a dict with the ways of all states to which one can come from these, in ascending order.

    The states are all at one look; `ways_at` returns such lists as `ways_of_moves` does.
    """
    found = {}
    while states:
        for state in states:
            found[state] = ways_at(place, state)
        states = sorted({behind for state in states for _, after in found[state] for behind in after})
    return found


def sure_ways(sky, most):
    """Return a dict with the ways of all states that can be reached, in ascending order."""
    return all_ways((sky, most), first_states(sky, most=most), ways_of_moves)


def sure_by(way, numbers):
    """Return the number that is sure by the way if these are the numbers of the states behind it."""
    gain, after = way
    return gain + min([numbers[behind] for behind in after], default=0)


def sure_numbers(ways):
    """Return a dict with the sure numbers of all states, of which these are the ways, from the last state on."""
    numbers = {}
    for state in reversed(list(ways)):
        numbers[state] = max([sure_by(way, numbers) for way in ways[state]])
    return numbers


def sure_worth(sky, *, most):
    """Return the sure worth."""
    numbers = sure_numbers(sure_ways(sky, most))
    return min([numbers[state] for state in first_states(sky, most=most)], default=0)


def sure_table(sky, *, most):
    """Return the ascending list of all states that can be reached, with their sure numbers."""
    numbers = sure_numbers(sure_ways(sky, most))
    return sorted(numbers.items())


def sure_move(ways, numbers, number):
    """Return the move that a rule has for a state with these ways and this sure number."""
    # Taking, if it is a move, is the second way.
    takes = len(ways) > 1 and sure_by(ways[1], numbers) == number
    return TAKE if takes else LEAVE


def sure_rule(sky, *, most):
    """Return the ascending list of all states that can be reached, each with a move that reaches its sure number."""
    ways = sure_ways(sky, most)
    numbers = sure_numbers(ways)
    return [(state, sure_move(ways[state], numbers, numbers[state])) for state in ways]


def is_sure_by(way, numbers, number):
    """Return True if all states behind the way are told, and the number is sure by it, otherwise False."""
    for behind in way[1]:
        if behind not in numbers:
            return False
    return sure_by(way, numbers) >= number


def is_most_by(way, numbers, number):
    """Return True if some failing that is told holds the way down to the number, otherwise False."""
    gain, after = way
    if not after:
        return gain <= number
    return any([behind in numbers and gain + numbers[behind] <= number for behind in after])


def is_sure_lower(sky, rows, *, most):
    """Return True if the list of states with their numbers is lower (point 36), otherwise False."""
    numbers = {state: number for state, number in rows}
    if len(numbers) < len(rows) or not all([state in numbers for state in first_states(sky, most=most)]):
        return False
    for state, number in rows:
        if not any([is_sure_by(way, numbers, number) for way in ways_of_moves((sky, most), state)]):
            return False
    return True


def is_sure_upper(sky, rows, *, most):
    """Return True if the list of states with their numbers is upper (point 36), otherwise False."""
    numbers = {state: number for state, number in rows}
    firsts = first_states(sky, most=most)
    if len(numbers) < len(rows) or (firsts and not any([state in numbers for state in firsts])):
        return False
    for state, number in rows:
        if not all([is_most_by(way, numbers, number) for way in ways_of_moves((sky, most), state)]):
            return False
    return True


def moves_by(rule):
    """Return a dict with the moves of the rule: of several for one state, the first."""
    found = {}
    for state, move in rule:
        if state not in found:
            found[state] = move
    return found


def failed_until(sky, failing, look):
    """Return the tuple of those ears of the failing that begin at the start of the look or ahead of it."""
    return tuple([ear for ear in failing if sky[2][ear][0] <= start_of(sky, look)])


def first_state_in(sky, failing):
    """Return the first state if just these ears fail, or None if there is none."""
    if not sky[0]:
        return None
    return (0, NO_LOOK, 0, (), failed_until(sky, failing, 0))


def next_state_in(sky, state, move, failing):
    """Return the state behind the move if just these ears fail, or None if there is none."""
    look = state[0]
    if is_last_look(sky, look):
        return None
    return state_behind_move(sky, state, move, failed_until(sky, failing, look + 1))


def is_taken(sky, state, told):
    """Return True if the look of the state is taken by the moves that are told for states, otherwise False."""
    return told.get(state, LEAVE) == TAKE and may_be_taken(sky, state)


def taken_with(sky, told, failing):
    """Return the list of the looks that are taken by the moves that are told for states if just these ears fail."""
    taken = []
    state = first_state_in(sky, failing)
    while state is not None:
        move = TAKE if is_taken(sky, state, told) else LEAVE
        if move == TAKE:
            taken.append(state[0])
        state = next_state_in(sky, state, move, failing)
    return taken


def taken_by(sky, rule, failing):
    """Return the list of the names of the looks that are taken by the rule if just these ears fail."""
    return taken_with(sky, moves_by(rule), failing)


def failings_of(sky, most):
    """Return the ascending list of the failings with at most so many ears."""
    return failings_among(list(range(len(sky[2]))), most)


def worths_by(sky, rule, failings):
    """Return the list of the worths that the rule reaches in these failings."""
    told = moves_by(rule)
    return [worth_of(sky, taken_with(sky, told, failing)) for failing in failings]


def least_worth(sky, rule, *, most):
    """Return the least worth that the rule reaches in a failing with at most so many ears."""
    return min(worths_by(sky, rule, failings_of(sky, most)))


def worst_failing(sky, rule, *, most):
    """Return the first failing with at most so many ears in which the rule reaches its least worth."""
    failings = failings_of(sky, most)
    worths = worths_by(sky, rule, failings)
    return failings[worths.index(min(worths))]

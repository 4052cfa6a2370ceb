"""Chances of ears that fail, and what is reached in the mean (points 38 to 40).

States, moves and rules are those of `skypasses.failing`. A number of this file is a tuple `(n, d)` in lowest
terms, d at least 1.
"""

from math import gcd

from skypasses.errors import BadNumber, BadSize
from skypasses.failing import (
    BEFORE_ALL, all_ways, beginning_ears, failings_of, first_states, gain_of, moves_by, moves_of, states_behind,
    taken_with,
)
from skypasses.skies import MOST_EARS, is_within, start_of, worth_of

MOST_DIVISOR = 100


def lowest(number, divisor):
    """Return the number in lowest terms; the divisor is at least 1."""
    common = gcd(number, divisor)
    return (number // common, divisor // common)


def plus(first, second):
    """Return the sum of the two numbers."""
    return lowest(first[0] * second[1] + second[0] * first[1], first[1] * second[1])


def times(first, second):
    """Return the product of the two numbers."""
    return lowest(first[0] * second[0], first[1] * second[1])


def is_at_most(first, second):
    """Return True if the first number is at most the second one, otherwise False."""
    return first[0] * second[1] <= second[0] * first[1]


def greatest_of(numbers):
    """Return the greatest of the numbers, of which there is at least one."""
    found = numbers[0]
    for number in numbers:
        if is_at_most(found, number):
            found = number
    return found


def is_chance(number, divisor):
    """Return True if the two values are a chance (point 38), otherwise False."""
    if not is_within(divisor, 1, MOST_DIVISOR) or not is_within(number, 0, divisor):
        return False
    return gcd(number, divisor) == 1


def check_chances(sky, chances):
    """Return None, or raise the first error that is due for the chances."""
    if len(chances) != len(sky[2]):
        raise BadSize()
    for number, divisor in chances:
        if not is_chance(number, divisor):
            raise BadNumber()


def chance_among(chances, names, failing):
    """Return the chance that of the ears with these names just those of the failing fail."""
    found = (1, 1)
    for name in names:
        number, divisor = chances[name]
        part = (number, divisor) if name in failing else (divisor - number, divisor)
        found = times(found, part)
    return found


def chance_of(chances, failing):
    """Return the chance of the failing."""
    return chance_among(chances, list(range(len(chances))), failing)


def chance_to_come(sky, chances, state):
    """Return the chance with which this state, of all at its look, comes behind a move, or as the first one."""
    look, failed = state[0], state[4]
    since = BEFORE_ALL if look == 0 else start_of(sky, look - 1)
    return chance_among(chances, beginning_ears(sky, since, start_of(sky, look)), failed)


def can_come(sky, chances, state):
    """Return True if the chance of the state is not 0, otherwise False."""
    return chance_to_come(sky, chances, state)[0] > 0


def likely_firsts(sky, chances):
    """Return the ascending list of the first states whose chance is not 0."""
    return [state for state in first_states(sky, most=MOST_EARS) if can_come(sky, chances, state)]


def likely_behind(sky, chances, state, move):
    """Return the ascending list of the states behind the move whose chance is not 0."""
    after = states_behind(sky, state, move, most=MOST_EARS)
    return [behind for behind in after if can_come(sky, chances, behind)]


def likely_ways(place, state):
    """Return the list of the gains of the moves and of the likely states behind them, `"leave"` first.

    The place is a tuple of the sky and of the chances.
    """
    sky, chances = place
    moves = moves_of(sky, state)
    return [(gain_of(sky, state, move), likely_behind(sky, chances, state, move)) for move in moves]


def mean_among(place, states, numbers):
    """Return the sum of the numbers of the states, times their chances."""
    sky, chances = place
    total = (0, 1)
    for state in states:
        total = plus(total, times(chance_to_come(sky, chances, state), numbers[state]))
    return total


def mean_by(place, way, numbers):
    """Return the mean number by the way if these are the numbers of the states behind it."""
    gain, after = way
    return plus((gain, 1), mean_among(place, after, numbers))


def mean_numbers(sky, chances):
    """Return a dict with the mean numbers of all states that can be reached, from the last state on."""
    place = (sky, chances)
    ways = all_ways(place, likely_firsts(sky, chances), likely_ways)
    numbers = {}
    for state in reversed(list(ways)):
        numbers[state] = greatest_of([mean_by(place, way, numbers) for way in ways[state]])
    return numbers


def mean_worth(sky, chances):
    """Return the greatest mean worth."""
    return mean_among((sky, chances), likely_firsts(sky, chances), mean_numbers(sky, chances))


def mean_table(sky, chances):
    """Return the ascending list of all states that can be reached, with their mean numbers."""
    numbers = mean_numbers(sky, chances)
    return [(state, numbers[state]) for state in reversed(list(numbers))]


def are_told(states, numbers):
    """Return True if each of the states has a number, otherwise False."""
    return all([state in numbers for state in states])


def are_mean_rows(sky, chances, rows, numbers):
    """Return True if no state stands twice in the list, and all likely first states do, otherwise False."""
    return len(numbers) == len(rows) and are_told(likely_firsts(sky, chances), numbers)


def means_by_ways(place, state, numbers):
    """Return the list of the mean numbers by the ways of the state, None for a way that is not told to its end."""
    found = []
    for way in likely_ways(place, state):
        found.append(mean_by(place, way, numbers) if are_told(way[1], numbers) else None)
    return found


def is_reached(means, number):
    """Return True if one of the means, which may be None, is at least the number, otherwise False."""
    return any([mean is not None and is_at_most(number, mean) for mean in means])


def is_never_passed(means, number):
    """Return True if none of the means is None or above the number, otherwise False."""
    return all([mean is not None and is_at_most(mean, number) for mean in means])


def is_mean_lower(sky, chances, rows):
    """Return True if the list of states with their numbers is mean lower (point 39), otherwise False."""
    place = (sky, chances)
    numbers = {state: number for state, number in rows}
    if not are_mean_rows(sky, chances, rows, numbers):
        return False
    return all([is_reached(means_by_ways(place, state, numbers), number) for state, number in rows])


def is_mean_upper(sky, chances, rows):
    """Return True if the list of states with their numbers is mean upper (point 39), otherwise False."""
    place = (sky, chances)
    numbers = {state: number for state, number in rows}
    if not are_mean_rows(sky, chances, rows, numbers):
        return False
    return all([is_never_passed(means_by_ways(place, state, numbers), number) for state, number in rows])


def mean_of(sky, rule, chances):
    """Return the mean worth of the rule."""
    told = moves_by(rule)
    total = (0, 1)
    for failing in failings_of(sky, MOST_EARS):
        worth = worth_of(sky, taken_with(sky, told, failing))
        total = plus(total, times(chance_of(chances, failing), (worth, 1)))
    return total

"""Clashes: sets of wishes that can be had together, and those that cannot (points 45 to 49)."""

from skypasses.late import plans_on, wishes_of_plan
from skypasses.skies import worth_of
from skypasses.ways import parts_of

ALWAYS = "all"
NEVER = "none"
SOMETIMES = "some"


def plans_by_sets(sky):
    """Return a dict with the lists of the plans for each set of wishes that can be had, a tuple."""
    found = {}
    for plan in plans_on(sky):
        found.setdefault(wishes_of_plan(sky, plan), []).append(plan)
    return found


def can_be_had(sky, wishes):
    """Return True if the set can be had, otherwise False."""
    return tuple(wishes) in plans_by_sets(sky)


def plan_for(sky, wishes):
    """Return a plan whose looks are for just these wishes, or None if there is none."""
    plans = plans_by_sets(sky).get(tuple(wishes), [])
    return plans[0] if plans else None


def with_one_more(sky, wishes):
    """Return the list of the sets that have one wish more than this one."""
    return [tuple(sorted([*wishes, wish])) for wish in range(len(sky[1])) if wish not in wishes]


def with_one_less(wishes):
    """Return the list of the sets that are left when one of the wishes is left out."""
    return [wishes[:at] + wishes[at + 1:] for at in range(len(wishes))]


def full_sets(sky):
    """Return the ascending list of the full sets."""
    had = plans_by_sets(sky)
    return [list(part) for part in sorted(had) if not any([more in had for more in with_one_more(sky, part)])]


def clashes(sky):
    """Return the ascending list of the clashes."""
    had = plans_by_sets(sky)
    parts = [part for part in sorted(parts_of(list(range(len(sky[1]))))) if part not in had]
    return [list(part) for part in parts if all([less in had for less in with_one_less(part)])]


def greatest_worths(sky):
    """Return a dict with the worth of each set of wishes that can be had, a tuple."""
    return {wishes: worth_of(sky, plans[0]) for wishes, plans in plans_by_sets(sky).items()}


def standing(sky, wish):
    """Return the standing of the wish: whether all, some or none of the best plans are for it."""
    worths = greatest_worths(sky)
    best = max(list(worths.values()))
    told = [wish in wishes for wishes in worths if worths[wishes] == best]
    if all(told):
        return ALWAYS
    return SOMETIMES if any(told) else NEVER


def price(sky, wish):
    """Return the price of the wish, or None if there is none."""
    worths = greatest_worths(sky)
    found = [worths[wishes] for wishes in worths if wish in wishes]
    if not found:
        return None
    return max(list(worths.values())) - max(found)


def ways_to_have(sky, wishes):
    """Return the number of the ways to have the set."""
    return len(plans_by_sets(sky).get(tuple(wishes), []))

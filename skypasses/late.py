"""Promises, plans that go on from begun looks, and wishes that come late (points 50 to 59)."""

from skypasses.best import after_look, next_looks, state_behind
from skypasses.errors import BadTime
from skypasses.skies import check_sky, copy_of, start_of, wish_of, worth_of
from skypasses.ways import parts_of

ACCEPTED = "accepted"
REFUSED = "refused"


def plans_on(sky, *, now=0, begun=()):
    """Return the ascending list of all plans that go on from the begun looks."""
    found = []
    waiting = [(list(begun), state_behind(sky, begun))]
    while waiting:
        plan, state = waiting.pop()
        found.append(plan)
        # The last one that is put there is gone on from first: so plans come in the order of lists.
        for look in reversed(next_looks(sky, state)):
            if start_of(sky, look) >= now:
                waiting.append(([*plan, look], after_look(sky, state, look)))
    return found


def wishes_of_plan(sky, plan):
    """Return the ascending tuple of the wishes that the looks of the plan are for."""
    return tuple(sorted([wish_of(sky, look) for look in plan]))


def has_all(wishes, wanted):
    """Return True if each of the wanted wishes is among the wishes, otherwise False."""
    return all([wish in wishes for wish in wanted])


def plans_keeping(sky, promises, now, begun):
    """Return the ascending list of the plans that go on and keep the promises."""
    plans = plans_on(sky, now=now, begun=begun)
    return [plan for plan in plans if has_all(wishes_of_plan(sky, plan), promises)]


def can_keep(sky, promises, *, now=0, begun=()):
    """Return True if the promises can be kept from the begun looks on, otherwise False."""
    return len(plans_keeping(sky, promises, now, begun)) > 0


def best_keeping(sky, promises, *, now=0, begun=()):
    """Return the worth of the best plan that keeps the promises, and this plan, or None if there is none."""
    found = None
    for plan in plans_keeping(sky, promises, now, begun):
        worth = worth_of(sky, plan)
        # Of several plans with the same worth the first one stays.
        if found is None or worth > found[0]:
            found = (worth, plan)
    return found


def sets_with(sky, wish, now, begun):
    """Return the list of the sets of wishes that plans that go on are for, of those that have the wish."""
    found = {}
    for plan in plans_on(sky, now=now, begun=begun):
        found[wishes_of_plan(sky, plan)] = True
    return [wishes for wishes in found if wish in wishes]


def clash_of(sky, promises, wish, *, now=0, begun=()):
    """Return the clash of the wish with the promises, or None if there is none."""
    sets = sets_with(sky, wish, now, begun)
    # The last part has all promises: if they can be kept with the wish, so can each part of them.
    for part in sorted(parts_of(promises), key=lambda names: (len(names), names)):
        if not any([has_all(wishes, part) for wishes in sets]):
            return list(part)
    return None


def loss_of(sky, promises, *, now=0, begun=()):
    """Return the loss by the promises, or None if they cannot be kept."""
    kept = best_keeping(sky, promises, now=now, begun=begun)
    if kept is None:
        return None
    return best_keeping(sky, [], now=now, begun=begun)[0] - kept[0]


def forced_looks(sky, promises, *, now=0, begun=()):
    """Return the ascending list of the looks that each plan has that goes on and keeps the promises."""
    plans = plans_keeping(sky, promises, now, begun)
    return [look for look in range(len(sky[0])) if all([look in plan for plan in plans])]


def open_looks(sky, promises, *, now=0, begun=()):
    """Return the ascending list of the looks that some plan has that goes on and keeps the promises."""
    return sorted({look for plan in plans_keeping(sky, promises, now, begun) for look in plan})


def last_call(sky, promises, wish, *, now=0, begun=()):
    """Return the greatest name of an open look for the wish, or None if there is none."""
    looks = open_looks(sky, promises, now=now, begun=begun)
    return max([look for look in looks if wish_of(sky, look) == wish], default=None)


def with_late(sky, worth, looks, *, now):
    """Return the sky with the late wish, or raise the first error that is due."""
    for start, _, _, _ in looks:
        if start < now:
            raise BadTime()
    old, worths, ears, capacity, turn = sky
    new = [(len(worths), *look) for look in looks]
    # Sorting leaves looks with the same start in the order in which they stand here.
    later = (sorted([*old, *new], key=lambda look: look[1]), [*worths, worth], list(ears), capacity, turn)
    check_sky(later)
    return later


def answer_late(sky, promises, worth, looks, *, now=0, begun=()):
    """Return what becomes of a late wish: the new sky, promises and plan if it is accepted, otherwise its clash."""
    later = with_late(sky, worth, looks, now=now)
    wish = len(sky[1])
    kept = [*promises, wish]
    best = best_keeping(later, kept, now=now, begun=begun)
    if best is None:
        return (REFUSED, clash_of(later, promises, wish, now=now, begun=begun))
    return (ACCEPTED, later, kept, best[1])


def begun_ahead(sky, plan, now):
    """Return the list of those looks of the plan that start ahead of the time."""
    return [look for look in plan if start_of(sky, look) < now]


def go_through(sky, promises, arrivals):
    """Return the answers to all late wishes, and the sky, the promises and the plan behind them."""
    here = copy_of(sky)
    kept = list(promises)
    plan = best_keeping(sky, promises)[1]
    answers = []
    for now, worth, looks in arrivals:
        answer = answer_late(here, kept, worth, looks, now=now, begun=begun_ahead(here, plan, now))
        if answer[0] == ACCEPTED:
            _, here, kept, plan = answer
            answers.append(None)
        else:
            answers.append(answer[1])
    return (answers, here, kept, plan)

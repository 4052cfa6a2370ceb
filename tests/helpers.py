"""What several tests need: skies made by parts, skies by chance, and the points told tick by tick."""

import copy
import itertools
import random

EXAMPLE = ([(0, 0, 2, 0, 4), (1, 3, 1, 30, 3), (0, 6, 1, 0, 2)], [5, 7], [(2, 4, 1)], 6, 20)


def make_sky(looks=(), worths=(5, 7), ears=(), capacity=6, turn=20):
    return (list(looks), list(worths), list(ears), capacity, turn)


def chance_sky(seed):
    """A sky that passes the check; its looks are close together, so that all kinds of wrong lists come up."""
    chance = random.Random(seed)
    wishes = chance.randint(1, 6)
    starts = sorted(chance.randint(0, 40) for _ in range(chance.randint(0, 8)))
    looks = [
        (
            chance.randrange(wishes),
            start,
            chance.randint(1, 6),
            chance.randint(-90, 90),
            chance.randint(1, 12),
        )
        for start in starts
    ]
    marks = sorted(chance.sample(range(45), 2 * chance.randint(0, 4)))
    ears = [(marks[k], marks[k + 1], chance.randint(1, 4)) for k in range(0, len(marks), 2)]
    worths = [chance.randint(0, 99) for _ in range(wishes)]
    return (looks, worths, ears, chance.randint(8, 18), chance.choice([20, 45, 90]))


def tick_loss(ears, tick):
    """What the ears take in the tick, if there is enough."""
    return sum(rate for begin, end, rate in ears if begin <= tick <= end - 1)


def naive_emptied(sky, amount, since, until):
    for tick in range(since, until):
        amount -= min(amount, tick_loss(sky[2], tick))
    return amount


def naive_turning(sky, first, second):
    difference = abs(sky[0][first][3] - sky[0][second][3])
    ticks = 0
    while ticks * sky[4] < difference:
        ticks += 1
    return ticks


def run_store(sky, names):
    """Goes by point 5, time by time. Returns whether each look fits, and the level at the end of each one."""
    looks, _, ears, capacity, _ = sky
    fits = {}
    ends = {}
    store = 0
    for time in range(max((looks[name][1] + looks[name][2] for name in names), default=0) + 1):
        if time:
            store -= min(store, tick_loss(ears, time - 1))
        for name in names:
            _, start, length, _, size = looks[name]
            if start + length == time:
                store += size
                ends[name] = store
        for name in names:
            if looks[name][1] == time:
                fits[name] = store + looks[name][4] <= capacity
    return [fits[name] for name in names], [ends[name] for name in names]


def naive_wrong(sky, names):
    looks = sky[0]
    for at, name in enumerate(names):
        ahead = names[:at]
        if ahead and name <= ahead[-1]:
            return ("order", at)
        if looks[name][0] in [looks[other][0] for other in ahead]:
            return ("wish", at)
        if ahead:
            last = ahead[-1]
            if looks[name][1] < looks[last][1] + looks[last][2] + naive_turning(sky, last, name):
                return ("turning", at)
        if not run_store(sky, ahead + [name])[0][-1]:
            return ("room", at)
    return None


def small_worths(sky, seed):
    """The sky with worths so small that several plans have the greatest one, and nothing is gained by some looks."""
    chance = random.Random(seed)
    return (sky[0], [chance.randint(0, 3) for _ in sky[1]], *sky[2:])


def large_sky(seed, looks=16, wishes=6):
    """A sky with as many looks, wishes and ears as there can be, in which most looks can come behind one another."""
    chance = random.Random(seed)
    told = [
        (k % wishes, 12 * k + chance.randint(0, 2), chance.randint(1, 4), chance.randint(-40, 40), chance.randint(1, 5))
        for k in range(looks)
    ]
    ears = [(10 + 45 * k, 14 + 45 * k, 1) for k in range(4)]
    return (told, [chance.randint(1, 99) for _ in range(wishes)], ears, 30, 90)


def every_plan(sky):
    """All plans, in the order of lists, by trying each ascending list."""
    names = range(len(sky[0]))
    told = [list(part) for length in range(min(6, len(names)) + 1) for part in itertools.combinations(names, length)]
    return sorted(part for part in told if naive_wrong(sky, part) is None)


def naive_worth(sky, names):
    return sum(sky[1][wish] for wish in {sky[0][name][0] for name in names})


def naive_behind(sky, state, look):
    """The state behind the look by points 20 and 21, told tick by tick, or None if it can't come next."""
    looks, _, _, capacity, _ = sky
    last, store, taken = state
    wish, start, length, _, size = looks[look]
    since = 0
    if last >= 0:
        since = looks[last][1] + looks[last][2]
        if start < since + naive_turning(sky, last, look):
            return None
    if wish in taken or naive_emptied(sky, store, since, start) + size > capacity:
        return None
    return (look, naive_emptied(sky, store, since, start + length) + size, tuple(sorted(taken + (wish,))))


def naive_ways(sky, state):
    """The looks that can come next with the states behind them."""
    told = [(look, naive_behind(sky, state, look)) for look in range(len(sky[0]))]
    return [(look, behind) for look, behind in told if behind is not None]


def naive_rest(sky, state):
    gains = [sky[1][sky[0][look][0]] + naive_rest(sky, behind) for look, behind in naive_ways(sky, state)]
    return max(gains, default=0)


def naive_reached(sky):
    """The states behind all plans, ascending."""
    found = set()
    for plan in every_plan(sky):
        state = (-1, 0, ())
        for look in plan:
            state = naive_behind(sky, state, look)
        found.add(state)
    return sorted(found)


def all_states(sky):
    """Each state of the sky, reached or not, ascending."""
    wishes = range(len(sky[1]))
    taken = sorted(part for length in range(len(wishes) + 1) for part in itertools.combinations(wishes, length))
    return list(itertools.product(range(-1, len(sky[0])), range(sky[3] + 1), taken))


def chance_fleet(seed):
    """A fleet of small skies with the same worths, small ones, so that there are several best fleet plans."""
    chance = random.Random(seed)
    worths = [chance.randint(0, 3) for _ in range(chance.randint(1, 4))]
    fleet = []
    for _ in range(chance.randint(1, 3)):
        looks, _, ears, capacity, turn = chance_sky(chance.randrange(10 ** 6))
        looks = [(look[0] % len(worths), *look[1:]) for look in looks[:4]]
        fleet.append((looks, list(worths), ears, capacity, turn))
    return fleet


def without(sky, failing):
    """The sky without the ears that fail."""
    return (sky[0], sky[1], [ear for name, ear in enumerate(sky[2]) if name not in failing], *sky[3:])


def every_failing(sky, most):
    """All failings with at most so many ears, as tuples in ascending order."""
    names = range(len(sky[2]))
    return sorted(part for k in range(min(most, len(names)) + 1) for part in itertools.combinations(names, k))


def naive_store(sky, names, time):
    """What is in the store at the time by point 5, behind the ears and behind looks that end then."""
    store = 0
    for now in range(time + 1):
        if now:
            store -= min(store, tick_loss(sky[2], now - 1))
        store += sum(sky[0][name][4] for name in names if sky[0][name][1] + sky[0][name][2] == now)
    return store


def naive_state(sky, look, taken, failing):
    """The state at the start of the look when these looks were taken and these ears fail (point 33)."""
    start = sky[0][look][1]
    failed = tuple(ear for ear in failing if sky[2][ear][0] <= start)
    wishes = tuple(sorted(sky[0][name][0] for name in taken))
    amount = naive_store(without(sky, failed), taken, start)
    return (look, taken[-1] if taken else -1, amount, wishes, failed)


def naive_may(sky, look, taken, failing):
    """Whether the look may be taken behind these when these ears fail (point 32)."""
    known = [ear for ear in failing if sky[2][ear][0] <= sky[0][look][1]]
    return naive_wrong(without(sky, known), taken + [look]) is None


def naive_taken(sky, rule, failing):
    """The looks that are taken by the rule, by the words of points 32 to 34."""
    taken = []
    for look in range(len(sky[0])):
        state = naive_state(sky, look, taken, failing)
        moves = [move for told, move in rule if told == state]
        if moves and moves[0] == "take" and naive_may(sky, look, taken, failing):
            taken.append(look)
    return taken


PLANS = {}


def plans_once(sky):
    """All plans as `every_plan` tells them, worked out once for each sky."""
    key = repr((sky[0], sky[2:]))
    if key not in PLANS:
        PLANS[key] = every_plan(sky)
    return PLANS[key]


def wishes_in(sky, names):
    return sorted({sky[0][name][0] for name in names})


def naive_on(sky, now=0, begun=()):
    """All plans that go on (point 51), in the order of lists."""
    count = len(begun)
    return [plan for plan in plans_once(sky)
            if plan[:count] == list(begun) and all(sky[0][name][1] >= now for name in plan[count:])]


def naive_keeping(sky, promises, now=0, begun=()):
    """All plans that go on and keep the promises, in the order of lists."""
    return [plan for plan in naive_on(sky, now, begun) if set(promises) <= set(wishes_in(sky, plan))]


def naive_best(sky, promises, now=0, begun=()):
    """The best plan that keeps the promises with its worth, or None (point 52)."""
    plans = naive_keeping(sky, promises, now, begun)
    if not plans:
        return None
    worth = max(naive_worth(sky, plan) for plan in plans)
    return (worth, min(plan for plan in plans if naive_worth(sky, plan) == worth))


def naive_clash(sky, promises, wish, now=0, begun=()):
    """The clash of the wish with the promises, or None, by the words of point 54."""
    for count in range(len(promises) + 1):
        for part in itertools.combinations(promises, count):
            if not naive_keeping(sky, [*part, wish], now, begun):
                return list(part)
    return None


def naive_late(sky, worth, looks):
    """The sky with the late wish, by the words of point 56: each look behind all that do not start later."""
    told = list(sky[0])
    for look in looks:
        at = 0
        while at < len(told) and told[at][1] <= look[0]:
            at += 1
        told.insert(at, (len(sky[1]), *look))
    return (told, sky[1] + [worth], *sky[2:])


def keeps(test, function, *args, **keywords):
    """Calls the function, and again when what it returned was spoiled: the same must come, and no argument change."""
    before = copy.deepcopy((args, keywords))
    told = function(*args, **keywords)
    test.assertEqual((args, keywords), before, function.__name__)
    first = copy.deepcopy(told)
    spoil(told)
    test.assertEqual((args, keywords), before, function.__name__)
    test.assertEqual(function(*args, **keywords), first, function.__name__)
    return first


def spoil(value):
    if isinstance(value, (list, tuple)):
        for part in value:
            spoil(part)
    if isinstance(value, list):
        value.append("spoiled")
        value.reverse()

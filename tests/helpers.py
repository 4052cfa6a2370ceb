"""What several tests need: skies made by parts, skies by chance, and the points told tick by tick."""

import copy
import random

EXAMPLE = ([(0, 0, 2, 0, 4), (1, 3, 1, 30, 3), (0, 6, 1, 0, 2)], [5, 7], [(2, 4, 1)], 6, 20)


def make_sky(looks=(), worths=(5, 7), ears=(), capacity=6, turn=20):
    return (list(looks), list(worths), list(ears), capacity, turn)


def chance_sky(seed):
    """A sky that passes the check; its looks are close together, so that all kinds of wrong lists come up."""
    chance = random.Random(seed)
    wishes = chance.randint(1, 6)
    starts = sorted(chance.randint(0, 40) for _ in range(chance.randint(0, 8)))
    looks = [
        (
            chance.randrange(wishes),
            start,
            chance.randint(1, 6),
            chance.randint(-90, 90),
            chance.randint(1, 12),
        )
        for start in starts
    ]
    marks = sorted(chance.sample(range(45), 2 * chance.randint(0, 4)))
    ears = [(marks[k], marks[k + 1], chance.randint(1, 4)) for k in range(0, len(marks), 2)]
    worths = [chance.randint(0, 99) for _ in range(wishes)]
    return (looks, worths, ears, chance.randint(8, 18), chance.choice([20, 45, 90]))


def tick_loss(ears, tick):
    """What the ears take in the tick, if there is enough."""
    return sum(rate for begin, end, rate in ears if begin <= tick <= end - 1)


def naive_emptied(sky, amount, since, until):
    for tick in range(since, until):
        amount -= min(amount, tick_loss(sky[2], tick))
    return amount


def naive_turning(sky, first, second):
    difference = abs(sky[0][first][3] - sky[0][second][3])
    ticks = 0
    while ticks * sky[4] < difference:
        ticks += 1
    return ticks


def run_store(sky, names):
    """Goes by point 5, time by time. Returns whether each look fits, and the level at the end of each one."""
    looks, _, ears, capacity, _ = sky
    fits = {}
    ends = {}
    store = 0
    for time in range(240):
        if time:
            store -= min(store, tick_loss(ears, time - 1))
        for name in names:
            _, start, length, _, size = looks[name]
            if start + length == time:
                store += size
                ends[name] = store
        for name in names:
            if looks[name][1] == time:
                fits[name] = store + looks[name][4] <= capacity
    return [fits[name] for name in names], [ends[name] for name in names]


def naive_wrong(sky, names):
    looks = sky[0]
    for at, name in enumerate(names):
        ahead = names[:at]
        if ahead and name <= ahead[-1]:
            return ("order", at)
        if looks[name][0] in [looks[other][0] for other in ahead]:
            return ("wish", at)
        if ahead:
            last = ahead[-1]
            if looks[name][1] < looks[last][1] + looks[last][2] + naive_turning(sky, last, name):
                return ("turning", at)
        if not run_store(sky, ahead + [name])[0][-1]:
            return ("room", at)
    return None


def keeps(test, function, *args, **keywords):
    """Calls the function, and again when what it returned was spoiled: the same must come, and no argument change."""
    before = copy.deepcopy((args, keywords))
    told = function(*args, **keywords)
    test.assertEqual((args, keywords), before, function.__name__)
    first = copy.deepcopy(told)
    spoil(told)
    test.assertEqual((args, keywords), before, function.__name__)
    test.assertEqual(function(*args, **keywords), first, function.__name__)
    return first


def spoil(value):
    if isinstance(value, (list, tuple)):
        for part in value:
            spoil(part)
    if isinstance(value, list):
        value.append("spoiled")
        value.reverse()

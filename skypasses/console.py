"""The console: deeds that change a sky, a time, promises and a plan, and that can be undone (points 64 to 68).

What a console has at a moment is a stand, a tuple `(sky, now, begun, promises, plan)`. A story is a tuple
`(past, here, future, journal)`: the stands ahead of the deeds in force, the present one, those of undone deeds, the
next one first, and the entries of what was done. Stands and stories are never changed: a deed makes new ones. So
what raises an error changes nothing.
"""

from skypasses.errors import BadEar, BadEntry, BadTime, BadWish, Clash, NotSo, NothingToRedo, NothingToUndo, SkyError
from skypasses.failing import without_ears
from skypasses.late import begun_ahead, best_keeping, can_keep, clash_of, with_late
from skypasses.skies import LAST_TIME, check_sky, copy_of, is_within, worth_of


def stand_with(sky, now, begun, promises):
    """Return the stand with the best plan that keeps the promises, which can be kept."""
    return (sky, now, begun, promises, best_keeping(sky, promises, now=now, begun=begun)[1])


def worth_at(stand):
    """Return the worth of the plan."""
    return worth_of(stand[0], stand[4])


def go_on(stand, time):
    """Return the stand at the time, and the list of the looks that have begun until then."""
    sky, now, begun, promises, plan = stand
    if not is_within(time, now, LAST_TIME):
        raise BadTime()
    there = begun_ahead(sky, plan, time)
    return ((sky, time, there, promises, plan), there[len(begun):])


def put_wish(stand, worth, looks):
    """Return the stand with the wish in the sky, and the name of the wish."""
    sky, now, begun, promises, _ = stand
    later = with_late(sky, worth, looks, now=now)
    return (stand_with(later, now, begun, promises), len(sky[1]))


def check_wish(stand, wish, promised):
    """Raise BadWish if this is not the name of a wish, NotSo if it is not promised, or not left, as it has to be."""
    sky, _, _, promises, _ = stand
    if not is_within(wish, 0, len(sky[1]) - 1):
        raise BadWish()
    if (wish in promises) != promised:
        raise NotSo()


def promise_wish(stand, wish):
    """Return the stand with the wish promised, and by how much the worth of the plan falls."""
    check_wish(stand, wish, False)
    sky, now, begun, promises, _ = stand
    kept = sorted([*promises, wish])
    best = best_keeping(sky, kept, now=now, begun=begun)
    if best is None:
        raise Clash(clash_of(sky, promises, wish, now=now, begun=begun))
    worth, plan = best
    return ((sky, now, begun, kept, plan), worth_at(stand) - worth)


def release_wish(stand, wish):
    """Return the stand with the wish not promised any more, and by how much the worth of the plan rises."""
    check_wish(stand, wish, True)
    sky, now, begun, promises, _ = stand
    there = stand_with(sky, now, begun, [other for other in promises if other != wish])
    return (there, worth_at(there) - worth_at(stand))


def promises_that_stay(sky, now, begun, promises):
    """Return the list of those promises, gone through in order, that can be kept together with those that stay."""
    kept = []
    for wish in promises:
        if can_keep(sky, [*kept, wish], now=now, begun=begun):
            kept.append(wish)
    return kept


def lose_ear(stand, ear):
    """Return the stand without the ear, and the list of the promises that do not stay."""
    sky, now, begun, promises, _ = stand
    if not is_within(ear, 0, len(sky[2]) - 1) or sky[2][ear][0] < now:
        raise BadEar()
    later = without_ears(sky, [ear])
    kept = promises_that_stay(later, now, begun, promises)
    return (stand_with(later, now, begun, kept), [wish for wish in promises if wish not in kept])


# The deeds by the words of their entries: each takes a stand and what follows the word, and returns the stand
# behind the deed and what is told.
DEEDS = {"go": go_on, "wish": put_wish, "promise": promise_wish, "release": release_wish, "lose": lose_ear}


def copy_of_entry(entry):
    """Return an entry that is equal to this one, with a list of its own."""
    return tuple([list(part) if isinstance(part, list) else part for part in entry])


def after_undo(story):
    """Return the story behind undoing the last deed in force."""
    past, here, future, journal = story
    if not past:
        raise NothingToUndo()
    return (past[:-1], past[-1], [here, *future], [*journal, ("undo",)])


def after_redo(story):
    """Return the story behind redoing the deed that was undone last."""
    past, here, future, journal = story
    if not future:
        raise NothingToRedo()
    return ([*past, here], future[0], future[1:], [*journal, ("redo",)])


def after_deed(story, entry):
    """Return the story behind the deed, and what is told."""
    past, here, _, journal = story
    word, *rest = entry
    deed = DEEDS[word]
    there, told = deed(here, *rest)
    return (([*past, here], there, [], [*journal, copy_of_entry(entry)]), told)


def after_entry(story, entry):
    """Return the story behind what the entry tells."""
    if entry[0] == "undo":
        return after_undo(story)
    if entry[0] == "redo":
        return after_redo(story)
    return after_deed(story, entry)[0]


def after_all(story, entries):
    """Return the story behind what all of the entries tell, one after another."""
    for entry in entries:
        story = after_entry(story, entry)
    return story


class Console:
    """A sky, a time, begun looks, promises and a plan, which change by deeds."""

    def __init__(self, sky):
        check_sky(sky)
        self._past = []
        self._here = stand_with(copy_of(sky), 0, [], [])
        self._future = []
        self._journal = []

    def _story(self):
        return (self._past, self._here, self._future, self._journal)

    def _keep(self, story):
        self._past, self._here, self._future, self._journal = story

    def _do(self, entry):
        story, told = after_deed(self._story(), entry)
        self._keep(story)
        return told

    def go(self, time):
        """Let the time go on; return the list of the looks that have begun by this."""
        return self._do(("go", time))

    def wish(self, worth, looks):
        """Put a wish with its looks into the sky; return its name."""
        return self._do(("wish", worth, looks))

    def promise(self, wish):
        """Promise the wish; return by how much the worth of the plan falls."""
        return self._do(("promise", wish))

    def release(self, wish):
        """Release the wish from being promised; return by how much the worth of the plan rises."""
        return self._do(("release", wish))

    def lose(self, ear):
        """Lose the ear; return the list of the promises that do not stay."""
        return self._do(("lose", ear))

    def undo(self):
        """Undo the last deed in force."""
        self._keep(after_undo(self._story()))

    def redo(self):
        """Redo the deed that was undone last."""
        self._keep(after_redo(self._story()))

    def do_all(self, deeds):
        """Do all deeds of the list of entries, or none of them if one raises an error."""
        self._keep(after_all(self._story(), deeds))

    def what_if(self, deeds):
        """Return the plan that there would be behind all deeds of the list of entries."""
        _, here, _, _ = after_all(self._story(), deeds)
        return list(here[4])

    def sky(self):
        """Return the sky."""
        return copy_of(self._here[0])

    def begun(self):
        """Return the list of the begun looks."""
        return list(self._here[2])

    def promises(self):
        """Return the ascending list of the promised wishes."""
        return list(self._here[3])

    def plan(self):
        """Return the best plan that keeps the promises from the begun looks on."""
        return list(self._here[4])

    def worth(self):
        """Return the worth of the plan."""
        return worth_at(self._here)

    def journal(self):
        """Return the list of the entries of what was done since the making."""
        return [copy_of_entry(entry) for entry in self._journal]

    @property
    def now(self):
        """The time."""
        return self._here[1]

    @property
    def can_undo(self):
        """Whether there is something to undo."""
        return len(self._past) > 0

    @property
    def can_redo(self):
        """Whether there is something to redo."""
        return len(self._future) > 0

    def __len__(self):
        return len(self._here[0][0])


def replay(sky, journal):
    """Return a console on the sky for which all of the journal was done, or raise BadEntry."""
    console = Console(sky)
    for at, entry in enumerate(journal):
        try:
            console.do_all([entry])
        except SkyError:
            raise BadEntry(at) from None
    return console

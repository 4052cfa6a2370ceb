"""The errors that the program raises: one class for each kind of failure."""


class SkyError(ValueError):
    """The base class of all errors of the program."""


class BadSize(SkyError):
    """A list has too few or too many things in it."""


class BadNumber(SkyError):
    """A value is no whole number, or not one within its bounds."""


class BadWish(SkyError):
    """A value is not the name of a wish."""


class BadTime(SkyError):
    """A value is no time, or not one that is right at its place."""


class BadText(SkyError):
    """A word of a text is wrong."""

    def __init__(self, line, column):
        self.line = line
        self.column = column


class BadLook(SkyError):
    """A number is not the name of a look."""

    def __init__(self, at):
        self.at = at


class NoPlan(SkyError):
    """A list of names of looks is no plan."""

    def __init__(self, word, at):
        self.word = word
        self.at = at


class BadEar(SkyError):
    """A value is not the name of an ear that can be lost."""


class NotSo(SkyError):
    """A deed takes for granted what is not so."""


class NothingToUndo(SkyError):
    """There is no deed to undo."""


class NothingToRedo(SkyError):
    """There is no deed to redo."""


class Clash(SkyError):
    """A wish cannot be kept together with some promised wishes."""

    def __init__(self, wishes):
        # A copy: whoever changes the list later does not change the error.
        self.wishes = list(wishes)


class BadEntry(SkyError):
    """An entry of a journal raises an error."""

    def __init__(self, at):
        self.at = at

"""The errors of the package. Callers read the attributes, not the messages."""


class TreeError(ValueError):
    """The base of the errors about a value that has the wrong form."""


class InvalidTree(TreeError):
    """What was passed is no tree, or makes none."""


class InvalidRow(TreeError):
    """What was passed is no row of the tree."""


class InvalidClass(TreeError):
    """What was passed is no class of the tree."""


class InvalidTable(TreeError):
    """What was passed is no table of integers."""


class InvalidFraction(TreeError):
    """What was passed is no number."""


class InvalidOperation(TreeError):
    """What was asked for cannot be done with these values."""


class ParseError(TreeError):
    """A text that cannot be read; `spot` tells where."""

    def __init__(self, spot):
        self.spot = spot


class InvalidNumber(IndexError):
    """An integer out of its bounds, or no integer at all: `given`."""

    def __init__(self, given):
        self.given = given


class UnknownName(KeyError):
    """A name that means nothing here: `name`."""

    def __init__(self, name):
        self.name = name


class TooMany(OverflowError):
    """More than a bound allows: `limit`."""

    def __init__(self, limit):
        self.limit = limit


class Refused(ArithmeticError):
    """The values are right, but have no answer; `reason` is a tuple that begins with a word."""

    def __init__(self, reason):
        self.reason = reason


class NothingToUndo(LookupError):
    """Fewer steps can be taken back than were asked for: `steps`."""

    def __init__(self, steps):
        self.steps = steps

"""The errors of the package."""


class DaysError(ValueError):
    """The base class of all errors of the package."""


class InvalidTable(DaysError):
    """A value is not a table."""


class InvalidItem(DaysError):
    """A value is not one of the items."""


class SameItem(DaysError):
    """Two items that must differ are the same one."""


class NotAHistory(DaysError):
    """A value is not a history."""


class InvalidDay(DaysError):
    """A value is not a day."""


class InvalidNumber(DaysError):
    """A value is not a number of items."""


class InvalidForks(DaysError):
    """A value is not the list of all forks of one history with so many items."""


class InvalidTold(DaysError):
    """A value is not a tuple of bounds."""


class InvalidPair(DaysError):
    """A value is not a pair of items."""


class InvalidPairs(DaysError):
    """A value is not a list of pairs of items."""


class OtherNumber(DaysError):
    """Two things that belong together have different numbers of items."""


class InvalidItems(DaysError):
    """A value is not a non-empty tuple of different items."""


class InvalidParts(DaysError):
    """A value is not a list of parts of a history."""


class NoCommon(DaysError):
    """No history has all of the given parts."""


class InvalidBound(DaysError):
    """A value is not a bound."""


class NothingToUndo(DaysError):
    """There is no call that can be taken back."""


class NotAnObject(DaysError):
    """The other operand is not an object of the same kind."""


class InvalidText(DaysError):
    """A value is not a text of the asked form."""


class Contradiction(DaysError):
    """Told bounds are not possible."""

    def __init__(self, index):
        self.index = index


class NotExact(DaysError):
    """A bound does not tell an exact day."""

    def __init__(self, index):
        self.index = index


class NotPossible(DaysError):
    """A day is not one of the possible days of a pair."""

    def __init__(self, least, greatest):
        self.least = least
        self.greatest = greatest


class TooLarge(DaysError):
    """An argument is greater than its limit."""

    def __init__(self, limit):
        self.limit = limit

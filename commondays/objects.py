"""Histories and told bounds as objects that never change."""

from commondays.bounds import keeps
from commondays.checks import is_number, is_told
from commondays.errors import InvalidNumber, InvalidTold, NotAHistory, NotAnObject, OtherNumber
from commondays.tables import day_of, is_history
from commondays.together import greater, lesser


class History:
    """A history; called with two items it gives their day."""

    def __init__(self, table):
        if not is_history(table):
            raise NotAHistory()
        self._table = table

    @property
    def table(self):
        """The history as a tuple."""
        return self._table

    def __call__(self, one, other):
        return day_of(self._table, one, other)

    def __and__(self, other):
        if not isinstance(other, History):
            raise NotAnObject()
        return History(lesser(self._table, other.table))

    def __or__(self, other):
        if not isinstance(other, History):
            raise NotAnObject()
        return History(greater(self._table, other.table))

    def __eq__(self, other):
        return isinstance(other, History) and self._table == other._table

    def __len__(self):
        return len(self._table)


class Told:
    """Told bounds for a number of items."""

    def __init__(self, items, bounds):
        if not is_number(items):
            raise InvalidNumber()
        if not is_told(bounds, items):
            raise InvalidTold()
        self._items = items
        self._bounds = bounds

    @property
    def bounds(self):
        """The bounds as a tuple."""
        return self._bounds

    def __add__(self, other):
        if not isinstance(other, Told):
            raise NotAnObject()
        if self._items != other._items:
            raise OtherNumber()
        return Told(self._items, self._bounds + other.bounds)

    def __contains__(self, value):
        if not isinstance(value, History) or len(value.table) != self._items:
            return False
        return keeps(value.table, self._bounds)

    def __len__(self):
        return len(self._bounds)

    def __eq__(self, other):
        return isinstance(other, Told) and self._items == other._items and self._bounds == other._bounds

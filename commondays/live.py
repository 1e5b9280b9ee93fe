"""Bounds that are told one after another."""

from commondays.bounds import is_possible
from commondays.checks import is_number, is_told
from commondays.errors import InvalidBound, InvalidNumber, InvalidTold, NothingToUndo
from commondays.ranges import day_range
from commondays.texts import parse_told


class LiveTold:
    """Told bounds that grow by calls, which can be taken back."""

    FIRST_DAY = 0

    def __init__(self, items):
        if not is_number(items):
            raise InvalidNumber()
        self._items = items
        self._bounds = ()
        # How many bounds there were before each call that can be taken back.
        self._counts = []

    def tell(self, one, other, low=0, high=None):
        """Add a bound; returns the number of bounds."""
        return self._tell_checked(((one, other, low, high),))

    def tell_all(self, *bounds):
        """Add several bounds, all or none; returns the number of bounds."""
        return self._tell_checked(bounds)

    def _tell_checked(self, added):
        """Add bounds by one call that can be taken back, unless one of them is refused."""
        self._check_added(self._bounds, added)
        self._counts.append(len(self._bounds))
        self._bounds = self._bounds + added
        return len(self._bounds)

    def _check_added(self, told, added):
        """Raise an error unless bounds can be added to told ones; neither need be those of the object."""
        if not is_told(added, self._items):
            raise InvalidBound()

    def undo(self):
        """Take back the latest call that added bounds and is not yet taken back."""
        if len(self._counts) == 0:
            raise NothingToUndo()
        self._bounds = self._bounds[:self._counts.pop()]

    def try_tells(self, *bounds):
        """The numbers of bounds that there would be after each of these; nothing is added."""
        numbers = []
        told = self._bounds
        for bound in bounds:
            self._check_added(told, (bound,))
            told = told + (bound,)
            numbers.append(len(told))
        return numbers

    def told_words(self):
        """The number of items and the number of bounds in words."""
        return [f"items {self._items}", f"bounds {len(self._bounds)}"]

    def __len__(self):
        return len(self._counts)

    def range_of(self, one, other):
        """The least and the greatest possible day of a pair; None if there is no greatest one."""
        return day_range(self._items, self._bounds, one, other)

    @property
    def bounds_now(self):
        """The bounds as a tuple."""
        return self._bounds

    @property
    def possible_now(self):
        """Whether the bounds are possible."""
        return is_possible(self._items, self._bounds)

    @classmethod
    def read(cls, items, text):
        """An object with the bounds of a text, and without a call that can be taken back."""
        made = cls(items)
        bounds = parse_told(text)
        if not is_told(bounds, items):
            raise InvalidTold()
        made._check_added((), bounds)
        made._bounds = bounds
        return made

    @staticmethod
    def is_valid(items, value):
        """Whether two values are a number of items and told bounds for them."""
        return is_number(items) and is_told(value, items)

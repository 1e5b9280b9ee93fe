"""Kinds of live bounds that take only some bounds."""

from commondays.bounds import earliest
from commondays.errors import NotExact
from commondays.live import LiveTold


class ExactTold(LiveTold):
    """Live bounds that take exact days only."""

    def told_words(self):
        """The words of the kind above, and its own one."""
        return [*super().told_words(), "exact"]

    def _check_added(self, told, added):
        super()._check_added(told, added)
        for index, (_, _, low, high) in enumerate(added, start=len(told)):
            if low != high:
                raise NotExact(index)


class StrictTold(LiveTold):
    """Live bounds that are always possible."""

    def told_words(self):
        """The words of the kind above, and its own one."""
        return [*super().told_words(), "strict"]

    def _check_added(self, told, added):
        super()._check_added(told, added)
        # This raises the error if all bounds together are not possible.
        earliest(self._items, told + added)


class StrictExactTold(StrictTold, ExactTold):
    """Live bounds that take exact days only and are always possible; exactness is checked first."""

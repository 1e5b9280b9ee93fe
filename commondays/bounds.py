"""Told bounds: whether they are possible, and the earliest history that keeps them."""

from commondays.chains import chain_table, find_chain, low_links
from commondays.checks import is_number, is_told
from commondays.errors import Contradiction, InvalidNumber, InvalidTold, NotAHistory
from commondays.tables import is_history, pair_day


def is_possible(items, told):
    """Whether some history with so many items keeps told bounds."""
    return _first_broken(_least_days(items, told), told) is None


def conflict(items, told):
    """The index of a bound that is not possible beside the others, with a chain that shows it, or None."""
    index = _first_broken(_least_days(items, told), told)
    if index is None:
        return None
    one, other, _, high = told[index]
    return (index, find_chain(low_links(told), one, other, high + 1))


def earliest(items, told):
    """The earliest history that keeps told bounds."""
    least = _least_days(items, told)
    index = _first_broken(least, told)
    if index is not None:
        raise Contradiction(index)
    return least


def keeps(history, told):
    """Whether a history keeps told bounds."""
    if not is_history(history):
        raise NotAHistory()
    if not is_told(told, len(history)):
        raise InvalidTold()
    return all([_holds(history, bound) for bound in told])


def _holds(history, bound):
    """Whether a history keeps one bound."""
    one, other, low, high = bound
    day = pair_day(history, one, other)
    return low <= day and (high is None or day <= high)


def _least_days(items, told):
    """The least days that the low bounds leave to the pairs; high bounds may be less than these."""
    if not is_number(items):
        raise InvalidNumber()
    if not is_told(told, items):
        raise InvalidTold()
    return chain_table(items, low_links(told))


def _first_broken(least, told):
    """The index of the first bound whose high is less than the least day of its pair, or None."""
    for index, (one, other, _, high) in enumerate(told):
        if high is not None and high < pair_day(least, one, other):
            return index
    return None

"""What told bounds leave possible for a pair, and what is certain about it."""

from commondays.bounds import earliest
from commondays.chains import chain_table, low_links
from commondays.checks import check_items, is_day, is_pair
from commondays.errors import InvalidDay, InvalidPair, NotPossible
from commondays.tables import pair_day


def day_range(items, told, one, other):
    """The least and the greatest possible day of a pair; None if there is no greatest one."""
    least = earliest(items, told)
    check_items(items, one, other)
    return (pair_day(least, one, other), _greatest_day(least, told, one, other))


def history_on(items, told, one, other, day):
    """The earliest history that keeps told bounds and has this day for a pair."""
    least, greatest = _range_beside(items, told, one, other, day)
    if day < least or not _reaches(greatest, day):
        raise NotPossible(least, greatest)
    return chain_table(items, [*low_links(told), (one, other, day)])


def surely_one(items, told, one, other, day):
    """Whether a pair is one on a day in every history that keeps told bounds."""
    least, _ = _range_beside(items, told, one, other, day)
    return day <= least


def possibly_one(items, told, one, other, day):
    """Whether a pair is one on a day in some history that keeps told bounds."""
    _, greatest = _range_beside(items, told, one, other, day)
    return _reaches(greatest, day)


def _range_beside(items, told, one, other, day):
    """The same as day_range; the day is only checked."""
    found = day_range(items, told, one, other)
    if not is_day(day):
        raise InvalidDay()
    return found


def surely_earlier(items, told, pair, other):
    """Whether a pair has an earlier day than another one in every history that keeps told bounds."""
    least = _least_beside(items, told, pair, other)
    greatest = _greatest_day(least, told, pair[0], pair[1])
    return not _reaches(greatest, pair_day(least, other[0], other[1]))


def surely_not_later(items, told, pair, other):
    """Whether a pair has the day of another one or an earlier one in every history that keeps told bounds."""
    least = _least_beside(items, told, pair, other)
    i, j = pair
    k, m = other
    greatest = _greatest_day(least, told, i, j)
    # On its greatest day the pair may draw the other one along: by i to k and j to m, or crosswise.
    apart = _is_after(greatest, least, k, m)
    straight = _is_after(greatest, least, k, i) or _is_after(greatest, least, j, m)
    across = _is_after(greatest, least, k, j) or _is_after(greatest, least, i, m)
    return not (apart and straight and across)


def _least_beside(items, told, pair, other):
    """The earliest history; the pairs are only checked."""
    least = earliest(items, told)
    if not is_pair(pair, items):
        raise InvalidPair()
    if not is_pair(other, items):
        raise InvalidPair()
    return least


def _greatest_day(least, told, one, other):
    """The greatest possible day of a pair, or None; least is the earliest history."""
    return min([bound[3] for bound in told if _stops(least, bound, one, other)], default=None)


def _stops(least, bound, one, other):
    """Whether a bound has a high that a pair cannot pass."""
    first, second, _, high = bound
    if high is None:
        return False
    straight = _is_beyond(least, first, one, high) and _is_beyond(least, other, second, high)
    across = _is_beyond(least, first, other, high) and _is_beyond(least, one, second, high)
    return straight or across


def _is_beyond(least, one, other, day):
    """Whether the least day of two items is greater than a day; an item is one with itself on every day."""
    return one == other or pair_day(least, one, other) > day


def _reaches(greatest, day):
    """Whether a greatest day is at least a day; None is greater than every day."""
    return greatest is None or day <= greatest


def _is_after(greatest, least, one, other):
    """Whether a greatest day is greater than the least one of two items; never if they are the same item."""
    if one == other:
        return False
    return greatest is None or greatest > pair_day(least, one, other)

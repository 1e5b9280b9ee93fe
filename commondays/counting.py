"""How many histories there are, and all of them one after another."""

from math import comb

from commondays.checks import is_day, is_number
from commondays.errors import InvalidDay, InvalidNumber, TooLarge

MOST_ITEMS = 40
LATEST_DAY = 60


def count_histories(items, last):
    """The number of histories with so many items and without a day after last."""
    if not is_number(items):
        raise InvalidNumber()
    if items > MOST_ITEMS:
        raise TooLarge(MOST_ITEMS)
    if not is_day(last):
        raise InvalidDay()
    if last > LATEST_DAY:
        raise TooLarge(LATEST_DAY)
    # With day 0 alone there is one history for each number of items; no items make nothing in one way.
    counts = [1] * (items + 1)
    for _ in range(last):
        counts = _with_one_more_day(counts)
    return counts[items]


def _with_one_more_day(counts):
    """The counts for each number of items if there is one more day, before all others.

    On the day behind it the items fall into groups, and each group has a history of its own. The group of the first
    item is chosen first, with size - 1 of the other items.
    """
    longer = [1]
    for many in range(1, len(counts)):
        ways = sum([comb(many - 1, size - 1) * counts[size] * longer[many - size] for size in range(1, many + 1)])
        longer.append(ways)
    return longer


def histories(items, last):
    """All histories with so many items and without a day after last, in ascending order."""
    if not is_number(items):
        raise InvalidNumber()
    if not is_day(last):
        raise InvalidDay()
    table = tuple(_zeros(0, items))
    while table is not None:
        yield table
        table = _following(table, last)


def _following(table, last):
    """The history behind a history in ascending order, or None."""
    for late in range(len(table) - 1, 0, -1):
        for early in range(late - 1, -1, -1):
            if table[late][early] < last and _is_free(table, late, early):
                row = _least_row(table, [*table[late][:early], table[late][early] + 1], late)
                # A row of zeros is the least one that can stand behind any rows.
                return (*table[:late], row, *_zeros(late + 1, len(table)))
    return None


def _zeros(start, stop):
    """Rows of zeros, with the lengths from start to stop - 1."""
    return [(0,) * length for length in range(start, stop)]


def _is_free(table, late, early):
    """Whether the days before this one in the table leave it open how much later it is."""
    return table[late][:early] == table[early]


def _least_row(table, begun, length):
    """The least row that begins with some days and goes with the rows above it."""
    row = list(begun)
    for early in range(len(begun), length):
        least = max([min(row[k], table[early][k]) for k in range(early)])
        row.append(least)
    return tuple(row)

"""Tables of days, and those of them that are histories."""

from itertools import combinations

from commondays.checks import check_items, is_day
from commondays.errors import InvalidDay, InvalidTable, NotAHistory


def is_table(value):
    """Whether any value is a table."""
    if not isinstance(value, tuple) or len(value) == 0:
        return False
    return all([_is_row(row, length) for length, row in enumerate(value)])


def _is_row(value, length):
    """Whether a value is a row of so many days."""
    if not isinstance(value, tuple) or len(value) != length:
        return False
    return all([is_day(day) for day in value])


def is_history(value):
    """Whether any value is a history."""
    return is_table(value) and _fits(value)


def day_of(table, one, other):
    """The day of a pair, in either order."""
    if not is_table(table):
        raise InvalidTable()
    check_items(len(table), one, other)
    return pair_day(table, one, other)


def pair_day(table, one, other):
    """The same as day_of, for arguments that are known to be good."""
    return table[max(one, other)][min(one, other)]


def bad_triple(table):
    """The first triple for which a table is no history, or None."""
    if not is_table(table):
        raise InvalidTable()
    # A history may have so many items that a look at all its triples takes long.
    if not _fits(table):
        for i, j, k in combinations(range(len(table)), 3):
            days = sorted([table[j][i], table[k][i], table[k][j]])
            if days[0] != days[1]:
                return (i, j, k)
    return None


def _fits(table):
    """Whether a table is a history."""
    return all([_goes_on(table, late) for late in range(1, len(table))])


def _goes_on(table, late):
    """Whether the first rows of a table up to this one are a history if those before it are."""
    row = table[late]
    # Next to an item with which it is one the longest, an item has the days of this one, up to their own day.
    longest = max(row)
    near = [early for early, day in enumerate(row) if day == longest][0]
    return all([
        day == min(longest, pair_day(table, near, early)) for early, day in enumerate(row) if early != near
    ])


def groups(history, day):
    """The groups of items that are one on a day, ordered by their first items."""
    if not is_history(history):
        raise NotAHistory()
    if not is_day(day):
        raise InvalidDay()
    found = []
    for item, row in enumerate(history):
        # An item that is one with an earlier item stands in a group already.
        if all([last < day for last in row]):
            later = [k for k in range(item + 1, len(history)) if history[k][item] >= day]
            found.append((item, *later))
    return found

"""The forks of a history, and the history of given forks."""

from itertools import combinations

from commondays.checks import check_items, is_day, is_number
from commondays.errors import InvalidForks, InvalidNumber, NotAHistory
from commondays.tables import is_history, pair_day


def forks(history):
    """All forks of a history, ordered by their days and then by their first items."""
    if not is_history(history):
        raise NotAHistory()
    found = []
    waiting = [tuple(range(len(history)))]
    while waiting:
        group = waiting.pop()
        if len(group) > 1:
            fork = _fork(history, group)
            found.append(fork)
            waiting.extend(fork[1])
    # Forks on one day have no common items, so they come in the order of their first items.
    return sorted(found)


def fork_at(history, one, other):
    """The fork that parts a pair."""
    if not is_history(history):
        raise NotAHistory()
    check_items(len(history), one, other)
    day = pair_day(history, one, other)
    group = [item for item in range(len(history)) if item == one or pair_day(history, item, one) >= day]
    return _fork(history, group)


def _fork(history, group):
    """The fork of a group of several items in ascending order."""
    first = group[0]
    # No two of the items part earlier than all of them part from the first one.
    day = min([history[item][first] for item in group[1:]])
    branches = []
    left = group
    while left:
        lead = left[0]
        branch = [item for item in left if item == lead or history[item][lead] > day]
        branches.append(tuple(branch))
        left = [item for item in left if item not in branch]
    return (day, tuple(branches))


def history_of(items, given):
    """The history with so many items and with the given forks, in any order."""
    if not is_number(items):
        raise InvalidNumber()
    if not isinstance(given, list) or not all([_has_fork_form(fork) for fork in given]):
        raise InvalidForks()
    # Counting first keeps a huge number of items from being enumerated.
    if sum([len(branches) - 1 for _, branches in given]) != items - 1:
        raise InvalidForks()
    if not _joins_all(items, given):
        raise InvalidForks()
    return _table_of(items, given)


def _has_fork_form(value):
    """Whether a value is a day with at least two tuples of items, whatever items these are."""
    if not isinstance(value, tuple) or len(value) != 2:
        return False
    day, branches = value
    if not is_day(day) or not isinstance(branches, tuple) or len(branches) < 2:
        return False
    return all([_has_branch_form(branch) for branch in branches])


def _has_branch_form(value):
    """Whether a value is a tuple of numbers that may be items."""
    return isinstance(value, tuple) and all([is_day(item) for item in value])


def _joins_all(items, given):
    """Whether the forks, from the last day back, put groups together that there are then.

    The caller has counted that they end with one group if each of them can.
    """
    days = {(item,): None for item in range(items)}
    for day, branches in sorted(given, key=lambda fork: -fork[0]):
        for branch in branches:
            if branch not in days:
                return False
            later = days.pop(branch)
            if later is not None and later <= day:
                return False
        # Groups have no common items, so this is the order by first items.
        if list(branches) != sorted(branches):
            return False
        days[whole_group(branches)] = day
    return True


def whole_group(branches):
    """The items of all branches, in ascending order."""
    return tuple(sorted([item for branch in branches for item in branch]))


def _table_of(items, given):
    """The table for forks that are known to be those of a history."""
    rows = [[0] * length for length in range(items)]
    for day, branches in given:
        for branch, other in combinations(branches, 2):
            for one in branch:
                for two in other:
                    rows[max(one, two)][min(one, two)] = day
    return tuple([tuple(row) for row in rows])

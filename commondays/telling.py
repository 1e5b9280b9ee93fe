"""Which pairs of a history must be told so that nothing else is possible."""

from commondays.checks import is_pair
from commondays.errors import InvalidPairs
from commondays.forks import forks


def determines(history, pairs):
    """Whether no other history has the same days for these pairs."""
    return len(missing(history, pairs)) == 0


def missing(history, pairs):
    """The day and the two branches of each fork that none of these pairs tells apart."""
    parted = _parted_branches(history)
    if not isinstance(pairs, list) or not all([is_pair(pair, len(history)) for pair in pairs]):
        raise InvalidPairs()
    told = {(min(pair), max(pair)): True for pair in pairs}
    return [(day, branch, other) for day, branch, other in parted if not _is_parted(branch, other, told)]


def _is_parted(branch, other, told):
    """Whether a told pair has an item in each of two branches; the lesser item stands first in a told pair."""
    return any([(min(one, two), max(one, two)) in told for one in branch for two in other])


def fewest_pairs(history):
    """How many pairs must be told at least."""
    return len(_parted_branches(history))


def some_pairs(history):
    """A list of as few pairs as possible that determine a history, in ascending order."""
    # Branches are ordered by their first items, so these pairs are in order, too.
    return sorted([(branch[0], other[0]) for _, branch, other in _parted_branches(history)])


def count_fewest(history):
    """How many sets of as few pairs as possible determine a history."""
    ways = 1
    for _, branch, other in _parted_branches(history):
        ways = ways * len(branch) * len(other)
    return ways


def _parted_branches(history):
    """The day and each two branches of each fork, in the order of the forks and then of the branches."""
    return [
        (day, branch, other)
        for day, branches in forks(history)
        for at, branch in enumerate(branches)
        for other in branches[at + 1:]
    ]

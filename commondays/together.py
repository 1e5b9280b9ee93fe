"""Several histories together, and parts of one."""

from commondays.bounds import earliest
from commondays.chains import chain_table, table_links
from commondays.checks import is_item, is_number
from commondays.errors import Contradiction, InvalidItems, InvalidNumber, InvalidParts, NoCommon, NotAHistory
from commondays.errors import OtherNumber
from commondays.tables import is_history, pair_day


def lesser(history, *more):
    """The history of the least days of each pair in some histories."""
    _check_histories(history, more)
    return tuple([
        tuple([min([given[late][early] for given in (history, *more)]) for early in range(late)])
        for late in range(len(history))
    ])


def greater(history, *more):
    """The earliest history whose days are at least those of some histories."""
    _check_histories(history, more)
    return chain_table(len(history), [link for given in (history, *more) for link in table_links(given)])


def _check_histories(history, more):
    """Raise an error unless these are histories with the same number of items."""
    if not all([is_history(given) for given in (history, *more)]):
        raise NotAHistory()
    if not all([len(given) == len(history) for given in more]):
        raise OtherNumber()


def part(history, chosen):
    """The history of some items, which get their numbers in the order in which they are chosen."""
    if not is_history(history):
        raise NotAHistory()
    if not _is_choice(chosen, len(history)):
        raise InvalidItems()
    return tuple([
        tuple([pair_day(history, item, earlier) for earlier in chosen[:number]])
        for number, item in enumerate(chosen)
    ])


def put_together(items, parts):
    """The earliest history with so many items that has the given parts."""
    if not is_number(items):
        raise InvalidNumber()
    if not isinstance(parts, list) or not all([_is_part(value, items) for value in parts]):
        raise InvalidParts()
    told = tuple([bound for chosen, history in parts for bound in _exact_bounds(chosen, history)])
    try:
        return earliest(items, told)
    except Contradiction:
        raise NoCommon() from None


def _is_choice(value, many):
    """Whether a value is a non-empty tuple of different ones of so many items."""
    if not isinstance(value, tuple) or len(value) == 0:
        return False
    # Only items can be put into a set without harm, so they are checked first.
    return all([is_item(item, many) for item in value]) and len(set(value)) == len(value)


def _is_part(value, many):
    """Whether a value is a tuple of a choice of so many items and a history for as many items as are chosen."""
    if not isinstance(value, tuple) or len(value) != 2:
        return False
    chosen, history = value
    return _is_choice(chosen, many) and is_history(history) and len(history) == len(chosen)


def _exact_bounds(chosen, history):
    """The bounds that tell all days of a part."""
    return [(chosen[late], chosen[early], day, day) for late, early, day in table_links(history)]

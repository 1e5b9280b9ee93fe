"""The history that is nearest to a table of days, which may be faulty."""

from commondays.chains import chain_table, find_chain, table_links
from commondays.errors import InvalidTable
from commondays.tables import is_table


def least_error(table):
    """The least error that some history has for a table."""
    return _error_of(table, _chain_days(table))


def nearest_history(table):
    """The history with the least error for a table whose days are the greatest chains made earlier by this error."""
    greatest = _chain_days(table)
    error = _error_of(table, greatest)
    return tuple([tuple([max(0, day - error) for day in row]) for row in greatest])


def worst_pair(table):
    """The first pair whose day is most exceeded by a chain, with this chain; None for a history."""
    greatest = _chain_days(table)
    excess = _greatest_excess(table, greatest)
    if excess == 0:
        return None
    links = table_links(table)
    worst = [(one, other) for one, other, day in links if greatest[one][other] - day == excess]
    one, other = worst[0]
    return (one, other, find_chain(links, one, other, greatest[one][other]))


def _chain_days(table):
    """The history of the greatest days of chains in a table."""
    if not is_table(table):
        raise InvalidTable()
    return chain_table(len(table), table_links(table))


def _error_of(table, greatest):
    """Half of the greatest excess, rounded up."""
    return (_greatest_excess(table, greatest) + 1) // 2


def _greatest_excess(table, greatest):
    """By how much a chain exceeds the day of its pair at most."""
    return max([greatest[one][other] - day for one, other, day in table_links(table)], default=0)

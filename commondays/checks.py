"""Checks of values, which several files need."""

from commondays.errors import InvalidItem, SameItem


def is_whole(value):
    """Whether a value is an integer; True and False are none."""
    return isinstance(value, int) and not isinstance(value, bool)


def is_day(value):
    """Whether a value is an integer from 0 on."""
    return is_whole(value) and value >= 0


def is_number(value):
    """Whether a value is a number of items."""
    return is_whole(value) and value >= 1


def is_item(value, many):
    """Whether a value is one of so many items."""
    return is_whole(value) and 0 <= value < many


def check_items(many, one, other):
    """Raise an error unless one and other are two of so many items."""
    if not is_item(one, many):
        raise InvalidItem()
    if not is_item(other, many):
        raise InvalidItem()
    if one == other:
        raise SameItem()


def is_pair(value, many):
    """Whether a value is a tuple of two different ones of so many items."""
    if not isinstance(value, tuple) or len(value) != 2:
        return False
    one, other = value
    return is_item(one, many) and is_item(other, many) and one != other


def has_bound_form(value):
    """Whether a value is a bound for a pair of items of any number."""
    if not isinstance(value, tuple) or len(value) != 4:
        return False
    one, other, low, high = value
    if not is_day(one) or not is_day(other) or one == other or not is_day(low):
        return False
    return high is None or (is_day(high) and low <= high)


def is_bound(value, many):
    """Whether a value is a bound for a pair of so many items."""
    return has_bound_form(value) and is_pair(value[:2], many)


def is_told(value, many):
    """Whether a value is a tuple of bounds for so many items."""
    return isinstance(value, tuple) and all([is_bound(bound, many) for bound in value])

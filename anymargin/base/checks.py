"""Checks of plain values that all modules share."""
from anymargin.errors import InvalidNumber

# The greatest integer of sixty digits: longer ones are not taken as arguments.
GREATEST = 10 ** 60 - 1


def is_number(value):
    """Whether the value is an integer of at most sixty digits, and no boolean."""
    return isinstance(value, int) and not isinstance(value, bool) and -GREATEST <= value <= GREATEST


def is_from_to(value, low, high):
    """Whether the value is an integer from low to high."""
    return is_number(value) and low <= value <= high


def check_number(value, low, high):
    """Refuses a value that is no integer from low to high."""
    if not is_from_to(value, low, high):
        raise InvalidNumber(value)


def are_numbers(many, low, high, value):
    """Whether the value is a tuple of just so many integers from low to high."""
    return is_row(many, value) and all([is_from_to(member, low, high) for member in value])


def is_row(many, value):
    """Whether the value is a tuple of just so many members."""
    return isinstance(value, tuple) and len(value) == many


def is_ascending(size, value):
    """Whether the value is an ascending tuple of integers from 0 to less than the size."""
    if not isinstance(value, tuple):
        return False
    ahead = -1
    for member in value:
        if not isinstance(member, int) or isinstance(member, bool) or not ahead < member < size:
            return False
        ahead = member
    return True


def are_guards(clocks, most, value):
    """Whether the value has for each clock a pair (low, high) with 0 <= low <= high <= most."""
    return is_row(clocks, value) and all([are_numbers(2, 0, most, pair) and pair[0] <= pair[1] for pair in value])

"""Exact fractions: pairs (top, bottom) of integers in lowest terms."""
from math import gcd

from anymargin.base.checks import is_number, is_row
from anymargin.base.exact import UNIT, ZERO, difference_of, order_of, product_of, reduced, rest_of, sum_of
from anymargin.base.exact import total_of, whole_of
from anymargin.errors import InvalidFraction, InvalidNumber, InvalidOperation, Refused

# How long a passed integer may be: anymargin.base.checks has the greatest one of so many digits.
MOST_DIGITS = 60


def is_fraction(value):
    """Whether the value is a fraction."""
    if not is_row(2, value) or not is_number(value[0]) or not is_number(value[1]):
        return False
    return value[1] > 0 and gcd(value[0], value[1]) == 1


def are_fractions(value):
    """Whether the value is a tuple of fractions, perhaps ()."""
    return isinstance(value, tuple) and all([is_fraction(member) for member in value])


def is_from_zero(value):
    """Whether the value is a fraction from 0 on."""
    return is_fraction(value) and value[0] >= 0


def are_weights(value):
    """Whether the value is a tuple of at least one fraction from 0 on, with the sum 1."""
    if not are_fractions(value) or any([member[0] < 0 for member in value]):
        return False
    return total_of(value) == UNIT


def check_fraction(value):
    """Refuses a value that is no fraction."""
    if not is_fraction(value):
        raise InvalidFraction("not a fraction")


def check_both(one, other):
    """Refuses two values of which one is no fraction."""
    check_fraction(one)
    check_fraction(other)


def check_some_fractions(value):
    """Refuses a value that is no tuple of at least one fraction."""
    if not are_fractions(value) or not value:
        raise InvalidFraction("not a tuple of at least one fraction")


def fraction(top, bottom):
    """The fraction with this value, in lowest terms."""
    if not is_number(top):
        raise InvalidNumber(top)
    if not is_number(bottom) or bottom == 0:
        raise InvalidNumber(bottom)
    return reduced(top, bottom)


def plus(one, other):
    """The sum."""
    check_both(one, other)
    return sum_of(one, other)


def less(one, other):
    """The first one less the second one."""
    check_both(one, other)
    return difference_of(one, other)


def times(one, other):
    """The product."""
    check_both(one, other)
    return product_of(one, other)


def over(one, other):
    """The quotient."""
    check_both(one, other)
    if other == ZERO:
        raise Refused(("zero",))
    return reduced(one[0] * other[1], one[1] * other[0])


def compared(one, other):
    """-1, 0 or 1: whether the first one is below the second one, equal to it, above it."""
    check_both(one, other)
    return order_of(one, other)


def halfway(one, other):
    """Half of the sum."""
    check_both(one, other)
    return product_of(sum_of(one, other), (1, 2))


def least(row):
    """The least one of a tuple of fractions."""
    return extreme(row, -1)


def greatest(row):
    """The greatest one of a tuple of fractions."""
    return extreme(row, 1)


def extreme(row, side):
    """The one of the row that is on this side, -1 or 1, of each other one."""
    check_some_fractions(row)
    found = row[0]
    for member in row:
        if order_of(member, found) == side:
            found = member
    return found


def whole(one):
    """The greatest integer that is not above the fraction."""
    check_fraction(one)
    return whole_of(one)


def rest(one):
    """The fraction less its whole: from 0 on, below 1."""
    check_fraction(one)
    return rest_of(one)


def simplest(low, high):
    """The fraction from low to high with the least bottom, and then the top nearest to 0."""
    check_both(low, high)
    if order_of(low, high) > 0:
        raise InvalidOperation("low is above high")
    return simplest_between(low, high)


def simplest_between(low, high):
    """What `simplest` tells, for fractions of any length."""
    if low[0] <= 0 <= high[0]:
        return ZERO
    if high[0] < 0:
        top, bottom = simplest_above((-high[0], high[1]), (-low[0], low[1]))
        return (-top, bottom)
    return simplest_above(low, high)


def simplest_above(low, high):
    """The simplest one of a stretch above 0."""
    wholes = []
    # While the stretch has no integer, the simplest one has the whole of both ends,
    # and its rest, turned over, is the simplest one of the rests, turned over.
    while low[1] > 1 and whole_of(low) == whole_of(high):
        wholes.append(whole_of(low))
        low, high = turned_over(rest_of(high)), turned_over(rest_of(low))
    top, bottom = -(-low[0] // low[1]), 1
    for part in reversed(wholes):
        top, bottom = part * top + bottom, top
    return (top, bottom)


def turned_over(one):
    """1 divided by a fraction above 0."""
    return (one[1], one[0])


def steps_for(length, most):
    """The fewest equal steps, each at most `most` long, that go the length."""
    check_both(length, most)
    if length[0] < 0 or most[0] <= 0:
        raise InvalidOperation("a length from 0 on and a step above 0 are asked for")
    return -(-length[0] * most[1] // (length[1] * most[0]))


def weighted(weights, rows):
    """Place by place the sum of the products of the weights with what the rows have there."""
    check_some_fractions(weights)
    if not isinstance(rows, tuple) or not all([are_fractions(row) for row in rows]):
        raise InvalidFraction("not a tuple of tuples of fractions")
    if len(rows) != len(weights) or any([len(row) != len(rows[0]) for row in rows]):
        raise InvalidOperation("as many rows as weights are asked for, all equally long")
    return weighted_sum(weights, rows)


def weighted_sum(weights, rows):
    """What `weighted` tells, for fractions of any length."""
    places = range(len(rows[0]))
    return tuple([total_of([product_of(weight, row[at]) for weight, row in zip(weights, rows)]) for at in places])

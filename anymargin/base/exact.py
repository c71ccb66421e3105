"""Arithmetic with fractions of any length, without checks: results can be longer than arguments."""
from math import gcd

ZERO = (0, 1)
UNIT = (1, 1)


def reduced(top, bottom):
    """The fraction with this value in lowest terms; the bottom is not 0."""
    common = gcd(top, bottom)
    if bottom < 0:
        common = -common
    return (top // common, bottom // common)


def sum_of(one, other):
    """The sum."""
    return reduced(one[0] * other[1] + other[0] * one[1], one[1] * other[1])


def difference_of(one, other):
    """The first one less the second one."""
    return reduced(one[0] * other[1] - other[0] * one[1], one[1] * other[1])


def product_of(one, other):
    """The product."""
    return reduced(one[0] * other[0], one[1] * other[1])


def total_of(row):
    """The sum of a list or tuple of fractions."""
    total = ZERO
    for member in row:
        total = sum_of(total, member)
    return total


def order_of(one, other):
    """-1, 0 or 1: whether the first one is below the second one, equal to it, above it."""
    left = one[0] * other[1]
    right = other[0] * one[1]
    if left < right:
        return -1
    if left > right:
        return 1
    return 0


def whole_of(one):
    """The greatest integer that is not above the fraction."""
    return one[0] // one[1]


def rest_of(one):
    """The fraction less its whole."""
    return reduced(one[0] - whole_of(one) * one[1], one[1])

"""Moments whose differences keep bounds, or a round of bounds with a sum below 0; moment by moment, without checks.

Bounds are told by rows (bound, x, y, number): the moment x less the moment y is at most the number, a fraction.
"""
from math import lcm

from anymargin.base.exact import ZERO, difference_of, order_of, reduced, sum_of
from anymargin.base.fractions import simplest_between


def common_bottom(rows):
    """A common multiple of the bottoms of all numbers."""
    common = 1
    for row in rows:
        common = lcm(common, row[3][1])
    return common


def linked(many, rows, common):
    """The pair (to, back): for each moment up to `many` the dicts of what bounds it against lesser ones.

    `to[i][x]` bounds i less x, `back[i][x]` x less i: each one is (number, counted by the common bottom; bounds).
    """
    to = [{} for _ in range(many + 1)]
    back = [{} for _ in range(many + 1)]
    for bound, x, y, number in rows:
        put_link(to, back, x, y, (number[0] * (common // number[1]), (bound,)))
    return (to, back)


def put_link(to, back, x, y, link):
    """Puts what bounds x less y to the others, if it is less than what was there."""
    row, other = (to[x], y) if x > y else (back[y], x)
    if other not in row or link[0] < row[other][0]:
        row[other] = link


def left_out(to, back, i):
    """Makes of the bounds by way of the moment i, the greatest one left, bounds of lesser ones.

    A round by way of i whose sum is below 0 is returned, None if there is none.
    """
    goers = list(to[i].items())
    comers = list(back[i].items())
    for x, ahead in comers:
        for y, behind in goers:
            link = (ahead[0] + behind[0], ahead[1] + behind[1])
            if x != y:
                put_link(to, back, x, y, link)
            elif link[0] < 0:
                return link[1]
    return None


def falling_round(many, rows):
    """A round of bounds whose sum is below 0, None if there is none: it goes through no moment twice."""
    to, back = linked(many, rows, common_bottom(rows))
    for i in range(many, 0, -1):
        found = left_out(to, back, i)
        if found is not None:
            return found
    return None


def chosen_times(many, rows):
    """The list of moments, 0 and then one after the other, that keep all bounds: none of their rounds falls."""
    common = common_bottom(rows)
    to, back = linked(many, rows, common)
    for i in range(many, 0, -1):
        left_out(to, back, i)
    # A moment is bounded by lesser ones alone once all greater ones are left out.
    times = [ZERO]
    for i in range(1, many + 1):
        low = ZERO
        for x, (number, bounds) in back[i].items():
            asked = difference_of(times[x], reduced(number, common))
            low = asked if order_of(asked, low) > 0 else low
        highs = [sum_of(times[x], reduced(number, common)) for x, (number, bounds) in to[i].items()]
        high = highs[0]
        for asked in highs:
            high = asked if order_of(asked, high) < 0 else high
        times.append(simplest_between(low, high))
    return times

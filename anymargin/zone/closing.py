"""Work with plain bounds of zones, without checks: tuples of rows, None for no bound."""
from itertools import permutations

from anymargin.base.exact import reduced


def counted(told):
    """The list of the rows of the bounds as they count: no reading is below 0."""
    places = range(len(told))
    return [[counted_bound(i, j, told[i][j]) for j in places] for i in places]


def counted_bound(i, j, bound):
    """What the bound at (i, j) counts as."""
    if (i == 0 or i == j) and (bound is None or bound > 0):
        return 0
    return bound


def closed_form(told):
    """The bounds of the closed form, None if no readings keep the bounds."""
    rows = counted(told)
    places = range(len(rows))
    for k in places:
        for i in places:
            if rows[i][k] is not None:
                rows[i] = shortened(rows[i], rows[i][k], rows[k])
    if any([rows[i][i] < 0 for i in places]):
        return None
    return tuple([tuple(row) for row in rows])


def shortened(row, first, ahead):
    """The least sums of the row as it is, and by way of one more index."""
    return [lesser_bound(bound, None if more is None else first + more) for bound, more in zip(row, ahead)]


def lesser_bound(one, other):
    """The lesser one of two bounds: None is greater than all others."""
    if one is None:
        return other
    if other is None:
        return one
    return min(one, other)


def is_above(one, other):
    """Whether the first one of two bounds is greater."""
    return one != other and lesser_bound(one, other) == other


def least_point(bounds, unit):
    """The least point of a zone, by its closed form."""
    return tuple([reduced(-bound, unit) for bound in bounds[0][1:]])


def far_point(bounds, unit, i, j, far):
    """The least point at which what stands for i less what stands for j is at least `far`, by the closed form."""
    rows = [list(row) for row in bounds]
    # All points can lie beyond `far`: their own bound is the lesser one then, and has to stay.
    rows[j][i] = lesser_bound(rows[j][i], -far)
    return least_point(closed_form(rows), unit)


def round_sum(rows, indices):
    """The sum of a round, None if there is no bound at one of its places."""
    total = 0
    for i, j in zip(indices, indices[1:] + indices[:1]):
        if rows[i][j] is None:
            return None
        total += rows[i][j]
    return total


def falls_round(rows, indices):
    """Whether the sum of the round is below 0."""
    total = round_sum(rows, indices)
    return total is not None and total < 0


def first_falling(rows):
    """A round with a sum below 0, None if there is none: one without an index twice is enough."""
    for many in range(1, len(rows) + 1):
        for indices in permutations(range(len(rows)), many):
            if falls_round(rows, indices):
                return indices
    return None

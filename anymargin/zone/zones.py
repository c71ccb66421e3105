"""Zones: readings of some clocks whose differences keep bounds that are counted by a unit."""
from anymargin.base.checks import are_numbers, check_number, is_number, is_row
from anymargin.base.exact import ZERO, difference_of, order_of, product_of, reduced
from anymargin.clock.classes import MOST_CLOCKS, check_readings, check_some_readings
from anymargin.errors import InvalidNumber, InvalidOperation, InvalidZone, Refused
from anymargin.zone.closing import closed_form, counted, falls_round, far_point, first_falling, is_above
from anymargin.zone.closing import least_point, lesser_bound

MOST_UNIT = 64


class Zone:
    """The readings that keep the bounds; it never changes."""

    def __init__(self, clocks, unit, bounds):
        check_number(clocks, 1, MOST_CLOCKS)
        check_number(unit, 1, MOST_UNIT)
        if not are_bounds(clocks, bounds):
            raise InvalidZone("not the bounds of a zone")
        self._clocks = clocks
        self._unit = unit
        self._told = bounds
        self._closed = closed_form(bounds)

    @property
    def clocks(self):
        """How many clocks there are."""
        return self._clocks

    @property
    def unit(self):
        """The unit by which the bounds are counted."""
        return self._unit

    @property
    def told(self):
        """The bounds as they were passed."""
        return self._told

    @property
    def bounds(self):
        """The bounds of the closed form, None for an empty zone."""
        return self._closed

    @property
    def is_empty(self):
        """Whether the zone has no point."""
        return self._closed is None

    def has(self, readings):
        """Whether the readings are a point."""
        check_readings(self._clocks, readings)
        row = (ZERO,) + readings
        places = range(len(row))
        return all([does_keep_bound(row[i], row[j], self._told[i][j], self._unit) for i in places for j in places])

    def least(self):
        """The point that has no point with a reading below its own."""
        if self._closed is None:
            raise Refused(("empty",))
        return least_point(self._closed, self._unit)

    def edge(self, i, j):
        """A point that meets the bound at (i, j) of the closed form, None if there is no bound."""
        check_number(i, 0, self._clocks)
        check_number(j, 0, self._clocks)
        if self._closed is None:
            raise Refused(("empty",))
        if self._closed[i][j] is None:
            return None
        return far_point(self._closed, self._unit, i, j, self._closed[i][j])

    def empty_round(self):
        """A round with a sum below 0, None if there is none."""
        return first_falling(counted(self._told))

    def is_empty_round(self, value):
        """Whether the value is a round with a sum below 0."""
        if not isinstance(value, tuple) or not value or not are_numbers(len(value), 0, self._clocks, value):
            return False
        return falls_round(counted(self._told), value)

    def is_within(self, other):
        """Whether all points are points of the other zone."""
        check_like(self, other)
        return self._closed is None or (other.bounds is not None and first_above(self._closed, other.bounds) is None)

    def outside(self, other):
        """A point that is no point of the other zone, None if there is none."""
        check_like(self, other)
        if self._closed is None:
            return None
        if other.bounds is None:
            return self.least()
        place = first_above(self._closed, other.bounds)
        if place is None:
            return None
        i, j = place
        # Where there is no bound, one more than the bound of the other zone is far enough.
        far = other.bounds[i][j] + 1 if self._closed[i][j] is None else self._closed[i][j]
        return far_point(self._closed, self._unit, i, j, far)

    def met(self, other):
        """The zone of the points that are in both zones."""
        check_like(self, other)
        told = [lesser_row(one, another) for one, another in zip(self._told, other.told)]
        return zone_of(self._unit, tuple(told))

    def finer(self, times):
        """The zone with the unit and all bounds times the number."""
        if not is_number(times) or times < 1 or self._unit * times > MOST_UNIT:
            raise InvalidNumber(times)
        told = [tuple([None if bound is None else bound * times for bound in row]) for row in self._told]
        return zone_of(self._unit * times, tuple(told))

    def __eq__(self, other):
        if not isinstance(other, Zone):
            return False
        return self._clocks == other.clocks and self._unit == other.unit and self._closed == other.bounds

    def __str__(self):
        if self._closed is None:
            return f"empty zone of {self._clocks} clocks by 1/{self._unit}"
        return f"zone of {self._clocks} clocks by 1/{self._unit}"


def are_bounds(clocks, value):
    """Whether the value has a row for each index, and in each row an integer or None for each index."""
    if not is_row(clocks + 1, value) or not all([is_row(clocks + 1, row) for row in value]):
        return False
    return all([bound is None or is_number(bound) for row in value for bound in row])


def check_zone(zone):
    """Refuses a value that is no zone."""
    if not isinstance(zone, Zone):
        raise InvalidZone("not a zone")


def check_like(zone, other):
    """Refuses what is not a zone with the same clocks and unit."""
    if not isinstance(other, Zone) or other.clocks != zone.clocks or other.unit != zone.unit:
        raise InvalidZone("not a zone with the same clocks and unit")


def does_keep_bound(one, other, bound, unit):
    """Whether one less the other is at most the bound, counted by the unit."""
    return bound is None or order_of(difference_of(one, other), reduced(bound, unit)) <= 0


def lesser_row(one, other):
    """The lesser ones of two rows of bounds, place by place."""
    return tuple([lesser_bound(bound, another) for bound, another in zip(one, other)])


def first_above(closed, other):
    """The first place at which a closed form has more than another one, None if there is none."""
    places = range(len(closed))
    above = [(i, j) for i in places for j in places if is_above(closed[i][j], other[i][j])]
    return above[0] if above else None


def zone_of(unit, told):
    """The zone with these bounds, which may be longer than those that can be passed."""
    zone = whole_zone(len(told) - 1, unit)
    zone._told = told
    zone._closed = closed_form(told)
    return zone


def formed_zone(clocks, unit, form):
    """The zone with this closed form; None is the form of an empty zone."""
    empty = ((-1,) + (0,) * clocks,) + ((0,) * (clocks + 1),) * clocks
    return zone_of(unit, empty if form is None else form)


def whole_zone(clocks, unit):
    """The zone of all readings."""
    check_number(clocks, 1, MOST_CLOCKS)
    places = range(clocks + 1)
    rows = [tuple([0 if i == 0 or i == j else None for j in places]) for i in places]
    return Zone(clocks, unit, tuple(rows))


def point_zone(readings, unit):
    """The zone of one point."""
    check_some_readings(readings)
    check_number(unit, 1, MOST_UNIT)
    numbers = [product_of(reading, (unit, 1)) for reading in (ZERO,) + readings]
    if any([number[1] > 1 for number in numbers]):
        raise InvalidOperation("not whole multiples of 1 divided by the unit")
    rows = [tuple([one[0] - other[0] for other in numbers]) for one in numbers]
    return zone_of(unit, tuple(rows))

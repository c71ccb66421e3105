"""Classes of readings: whole parts, and the sequence of the rests."""
from math import lcm

from anymargin.base.checks import are_guards, are_numbers, check_number, is_ascending, is_row
from anymargin.base.exact import UNIT, ZERO, difference_of, order_of, reduced, sum_of, whole_of
from anymargin.base.fractions import is_from_zero
from anymargin.errors import InvalidClass, InvalidOperation, InvalidReadings

MOST_NUMBER = 4
MOST_CLOCKS = 3


def is_some_row(value):
    """Whether the value is a tuple with a member for each of one to three clocks."""
    return isinstance(value, tuple) and 1 <= len(value) <= MOST_CLOCKS


def check_readings(clocks, readings):
    """Refuses what is not the readings of so many clocks."""
    if not is_row(clocks, readings) or not all([is_from_zero(reading) for reading in readings]):
        raise InvalidReadings("not the readings of so many clocks")


def check_some_readings(readings):
    """Refuses what is not the readings of one to three clocks."""
    if not is_some_row(readings):
        raise InvalidReadings("not the readings of one to three clocks")
    check_readings(len(readings), readings)


def check_low(readings):
    """Refuses readings that are greater than the greatest number in bounds."""
    if any([order_of(reading, (MOST_NUMBER, 1)) > 0 for reading in readings]):
        raise InvalidReadings("a reading is above 4")


def is_class(clocks, value):
    """Whether the value is a class of so many clocks."""
    check_number(clocks, 1, MOST_CLOCKS)
    return has_class_form(clocks, value)


def has_class_form(clocks, value):
    """What `is_class` tells, without a check of the clocks."""
    if not is_row(2, value) or not are_numbers(clocks, 0, MOST_NUMBER, value[0]):
        return False
    wholes, order = value
    if not isinstance(order, tuple) or not order or not all([is_ascending(clocks, group) for group in order]):
        return False
    if () in order[1:] or sorted([clock for group in order for clock in group]) != list(range(clocks)):
        return False
    return all([wholes[clock] < MOST_NUMBER for group in order[1:] for clock in group])


def check_class(cls):
    """Refuses a value that is no class."""
    if not is_row(2, cls) or not is_some_row(cls[0]) or not has_class_form(len(cls[0]), cls):
        raise InvalidClass("not a class")


def class_of(readings):
    """The class that the readings are in."""
    check_some_readings(readings)
    check_low(readings)
    return class_with(readings)


def class_with(readings):
    """What `class_of` tells, without checks."""
    common = 1
    for reading in readings:
        common = lcm(common, reading[1])
    # Counted by a common bottom the rests are integers, which can be sorted.
    rests = [reading[0] % reading[1] * (common // reading[1]) for reading in readings]
    steps = [0] + [step for step in sorted(set(rests)) if step > 0]
    order = [tuple([clock for clock in range(len(rests)) if rests[clock] == step]) for step in steps]
    return (tuple([whole_of(reading) for reading in readings]), tuple(order))


def told_point(cls):
    """Readings of the class, with the rests in equal steps."""
    check_class(cls)
    steps = len(cls[1])
    return readings_at(cls, [reduced(step, steps) for step in range(1, steps)])


def readings_at(cls, rests):
    """The readings with a rest for each group behind the first one."""
    wholes, order = cls
    readings = [(number, 1) for number in wholes]
    for group, more in zip(order[1:], rests):
        for clock in group:
            readings[clock] = sum_of(readings[clock], more)
    return tuple(readings)


def is_in(cls, readings):
    """Whether the readings are in the class."""
    check_class(cls)
    check_readings(len(cls[0]), readings)
    check_low(readings)
    return class_with(readings) == cls


def next_class(cls):
    """The next class in time, None if there is none."""
    check_class(cls)
    return class_behind(cls)


def class_behind(cls):
    """What `next_class` tells, without checks."""
    wholes, order = cls
    if any([wholes[clock] == MOST_NUMBER for clock in order[0]]):
        return None
    if order[0]:
        return (wholes, ((),) + order)
    return (raised(wholes, order[-1]), (order[-1],) + order[1:-1])


def raised(wholes, clocks):
    """The whole parts, those of some clocks one up."""
    return tuple([wholes[clock] + 1 if clock in clocks else wholes[clock] for clock in range(len(wholes))])


def put_back(cls, clocks):
    """The class to which the readings lead if these clocks are put back to 0."""
    check_class(cls)
    if not is_ascending(len(cls[0]), clocks):
        raise InvalidOperation("not an ascending tuple of clocks of the class")
    return class_put_back(cls, clocks)


def class_put_back(cls, clocks):
    """What `put_back` tells, without checks."""
    wholes, order = cls
    left = [tuple([clock for clock in group if clock not in clocks]) for group in order]
    first = tuple(sorted(left[0] + clocks))
    numbers = [0 if clock in clocks else wholes[clock] for clock in range(len(wholes))]
    return (tuple(numbers), (first,) + tuple([group for group in left[1:] if group]))


def keeps(cls, guards):
    """Whether the readings of the class keep the guards."""
    check_class(cls)
    if not are_guards(len(cls[0]), MOST_NUMBER, guards):
        raise InvalidOperation("not guards for the clocks of the class")
    return does_keep(cls, guards)


def does_keep(cls, guards):
    """What `keeps` tells, without checks."""
    wholes, order = cls
    # A reading with a rest above 0 is at most a number only if its whole part is below it.
    highest = raised(wholes, [clock for group in order[1:] for clock in group])
    return all([low <= number and most <= high for number, most, (low, high) in zip(wholes, highest, guards)])


def borders(cls):
    """The ascending tuple of the classes of which the closure is made."""
    check_class(cls)
    return borders_of(cls)


def borders_of(cls):
    """What `borders` tells, without checks."""
    wholes, order = cls
    # In a border each group has the rest of the one ahead, or a greater one.
    rows = [order[:1]]
    for group in order[1:]:
        rows = [row[:-1] + (merged_clocks(row[-1], group),) for row in rows] + [row + (group,) for row in rows]
    found = [(wholes, row) for row in rows]
    # The greatest rest can be 1: these clocks belong to the next whole part, with the rest 0.
    for row in rows:
        if len(row) > 1:
            found.append((raised(wholes, row[-1]), (merged_clocks(row[0], row[-1]),) + row[1:-1]))
    return tuple(sorted(found))


def merged_clocks(one, other):
    """The ascending tuple of the clocks of two groups."""
    return tuple(sorted(one + other)) if one else other


def is_by(cls, readings):
    """Whether the readings are in the closure of the class."""
    check_class(cls)
    check_readings(len(cls[0]), readings)
    check_low(readings)
    return rests_by(cls, readings) is not None


def rests_by(cls, readings):
    """The list of the rests of the groups behind the first one, None outside of the closure."""
    wholes, order = cls
    over = [difference_of(reading, (number, 1)) for reading, number in zip(readings, wholes)]
    if any([over[clock] != ZERO for clock in order[0]]):
        return None
    rests = [over[group[0]] for group in order[1:]]
    if any([over[clock] != more for group, more in zip(order[1:], rests) for clock in group]):
        return None
    if any([rise[0] < 0 for rise in rises(rests)]):
        return None
    return rests


def rises(rests):
    """The list of the steps from 0 over the rests of the groups up to 1."""
    ladder = [ZERO] + rests + [UNIT]
    return [difference_of(high, low) for low, high in zip(ladder, ladder[1:])]


def classes_within(limits):
    """The ascending tuple of all classes whose readings are at most the limits."""
    if not is_some_row(limits) or not are_numbers(len(limits), 0, MOST_NUMBER, limits):
        raise InvalidOperation("not limits for one to three clocks")
    rows = [()]
    for limit in limits:
        rows = [row + (number,) for row in rows for number in range(limit + 1)]
    found = [(row, order) for row in rows for order in orders(len(limits)) if does_fit(row, order, limits)]
    return tuple(sorted(found))


def does_fit(wholes, order, limits):
    """Whether each clock whose whole part is its limit has the rest 0."""
    return all([wholes[clock] < limits[clock] for group in order[1:] for clock in group])


def orders(clocks):
    """All ways to put so many clocks into groups by their rests."""
    found = [((),)]
    for clock in range(clocks):
        found = [row for order in found for row in orders_with(order, clock)]
    return found


def orders_with(order, clock):
    """The ways to put one more clock, greater than all others, into a group or between groups."""
    places = range(len(order))
    within = [order[:at] + (order[at] + (clock,),) + order[at + 1:] for at in places]
    between = [order[:at + 1] + ((clock,),) + order[at + 1:] for at in places]
    return within + between

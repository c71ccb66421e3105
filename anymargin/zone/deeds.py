"""What steps make of zones: waits, putting back, bounds, doors."""
from anymargin.base.checks import GREATEST, are_guards, are_numbers, check_number, is_ascending, is_number, is_row
from anymargin.clock.classes import MOST_NUMBER, check_class, is_some_row
from anymargin.errors import InvalidOperation, InvalidZone
from anymargin.machine.machines import asked_at, check_machine
from anymargin.zone.forms import back_form, cut_form, earlier_form, freed_form, later_form, put_back_form, step_form
from anymargin.zone.zones import MOST_UNIT, check_zone, formed_zone


def check_numbers(zone, row):
    """Refuses what is not a row of numbers."""
    if not are_numbers(zone.clocks, -GREATEST, GREATEST, row):
        raise InvalidOperation("not a row of numbers")


def check_highs(zone, row):
    """Refuses what is not a row of numbers, of which some can be None."""
    if not is_row(zone.clocks, row) or not all([number is None or is_number(number) for number in row]):
        raise InvalidOperation("not a row of numbers")


def check_clocks(zone, clocks):
    """Refuses what is not an ascending tuple of clocks of the zone."""
    if not is_ascending(zone.clocks, clocks):
        raise InvalidOperation("not an ascending tuple of clocks of the zone")


def with_form(zone, form):
    """The zone with this form, of the clocks and the unit of another zone."""
    return formed_zone(zone.clocks, zone.unit, form)


def later(zone, tops):
    """The zone of the readings to which a wait leads from a point, none of them above its top."""
    check_zone(zone)
    check_numbers(zone, tops)
    return with_form(zone, later_form(zone.bounds, tops))


def earlier(zone):
    """The zone of the readings from which a wait leads to a point."""
    check_zone(zone)
    return with_form(zone, earlier_form(zone.bounds))


def put_back(zone, clocks):
    """The zone of the points with these clocks at 0."""
    check_zone(zone)
    check_clocks(zone, clocks)
    return with_form(zone, put_back_form(zone.bounds, clocks))


def freed(zone, clocks):
    """The zone of the readings that are points with these clocks at 0."""
    check_zone(zone)
    check_clocks(zone, clocks)
    return with_form(zone, freed_form(zone.bounds, clocks))


def cut(zone, lows, highs):
    """The zone of the points with each reading at least its low and at most its high number."""
    check_zone(zone)
    check_numbers(zone, lows)
    check_highs(zone, highs)
    return with_form(zone, cut_form(zone.bounds, lows, highs))


def widened(guards, unit, slack):
    """The pair (lows, highs) of the guards, counted by the unit, and wider by the slack."""
    if not is_some_row(guards) or not are_guards(len(guards), MOST_NUMBER, guards):
        raise InvalidOperation("not guards of one to three clocks")
    check_number(unit, 1, MOST_UNIT)
    check_number(slack, 0, MOST_UNIT)
    return wide_stretch(guards, unit, slack)


def wide_stretch(pairs, unit, slack):
    """What `widened` tells, without checks."""
    lows = tuple([low * unit - slack for low, high in pairs])
    highs = tuple([high * unit + slack for low, high in pairs])
    return (lows, highs)


def step_zone(machine, door, zone, slack):
    """The zone of the readings behind a door to which steps within the slack lead from points."""
    check_step(machine, door, zone, slack)
    stretch = wide_stretch(asked_at(machine, door), zone.unit, slack)
    return with_form(zone, step_form(zone.bounds, stretch, machine.doors[door][2]))


def back_zone(machine, door, zone, slack):
    """The zone of the readings from which steps within the slack lead through a door to points."""
    check_step(machine, door, zone, slack)
    stretch = wide_stretch(asked_at(machine, door), zone.unit, slack)
    return with_form(zone, back_form(zone.bounds, stretch, machine.doors[door][2]))


def check_step(machine, door, zone, slack):
    """Refuses what is not a door of a machine, a zone with its clocks, and a slack."""
    check_machine(machine)
    check_number(door, 0, len(machine.doors) - 1)
    check_zone(zone)
    if zone.clocks != machine.clocks:
        raise InvalidZone("not a zone with the clocks of the machine")
    check_number(slack, 0, MOST_UNIT)


def class_zone(cls, unit):
    """The zone of the readings in the closure of a class."""
    check_class(cls)
    check_number(unit, 1, MOST_UNIT)
    levels = {}
    for level in range(len(cls[1])):
        for clock in cls[1][level]:
            levels[clock + 1] = level
    # The number 0 stands with the first group: both have the rest 0.
    levels[0] = 0
    wholes = (0,) + cls[0]
    places = range(len(wholes))
    rows = [tuple([unit * (wholes[i] - wholes[j] + most_ahead(levels[i], levels[j])) for j in places]) for i in places]
    return formed_zone(len(cls[0]), unit, tuple(rows))


def most_ahead(level, other):
    """The greatest difference, in the closure, of the rests of two groups."""
    return 1 if level > other else 0

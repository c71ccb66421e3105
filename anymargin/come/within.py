"""What is come to within 1/m: a walk over zones, which ends with a run or with a table."""
from anymargin.base.checks import check_number, is_row
from anymargin.base.exact import reduced
from anymargin.errors import TooMany
from anymargin.machine.machines import asked_at, check_machine
from anymargin.zone.deeds import step_zone, wide_stretch
from anymargin.zone.forms import back_form, least_numbers, met_form, point_form, step_form, zero_form
from anymargin.zone.zones import Zone, formed_zone

MOST_M = 64
MOST_ZONES = 2000

# What doors make has bounds from -257 to 257. Raised, they have at most ten bits of eleven: one is free.
HIGHEST = 257
RAISED = 258
BITS = 11


def made_zone(machine, door, zone):
    """What the door makes of a zone, by the margin of its unit."""
    return step_zone(machine, door, zone, 1)


def check_ask(machine, room):
    """Refuses what is not a machine and a room of it."""
    check_machine(machine)
    check_number(room, 0, machine.rooms - 1)


def door_steps(machine, m):
    """The list that has for each room the list of (door, goal, stretch, resets) of the doors from it."""
    rows = [[] for _ in range(machine.rooms)]
    for index in range(len(machine.doors)):
        room, _, resets, goal = machine.doors[index]
        rows[room].append((index, goal, wide_stretch(asked_at(machine, index), m, 1), resets))
    return rows


def walked(machine, room, m):
    """The list of what the walk keeps: (room, form, place of the one that it is made of, door).

    It ends with one in the room, if the walk keeps one.
    """
    begin = zero_form(machine.clocks)
    kept = [(0, begin, None, None)]
    lots = [[] for _ in range(machine.rooms)]
    lots[0].append(packed(begin) | marks_over(begin))
    steps = door_steps(machine, m)
    at = 0
    while at < len(kept) and kept[-1][0] != room:
        look_on(kept, lots, at, steps, room)
        at += 1
    return kept


def look_on(kept, lots, at, steps, room):
    """Keeps what the doors make of a kept zone, up to the first one in the room."""
    place, form = kept[at][:2]
    for index, goal, stretch, resets in steps[place]:
        made = step_form(form, stretch, resets)
        if made is not None and not is_held(made, lots[goal]):
            if len(kept) == MOST_ZONES:
                raise TooMany(MOST_ZONES)
            kept.append((goal, made, at, index))
            lots[goal].append(packed(made) | marks_over(made))
            if goal == room:
                return


def packed(form):
    """The bounds of a form in one integer, each one in bits of its own."""
    total = 0
    for row in form:
        for bound in row:
            total = total << BITS | raised_bound(bound)
    return total


def raised_bound(bound):
    """The bound, made an integer of at most ten bits.

    Zones of tables can have any bounds, or None: those beyond all bounds of what doors make count as just beyond.
    """
    if bound is None or bound > HIGHEST:
        return HIGHEST + RAISED
    return max(bound, -RAISED) + RAISED


def marks_over(form):
    """The bits that stay free in a packed form, one above each bound."""
    total = 0
    for _ in range(len(form) ** 2):
        total = total << BITS | 1 << BITS - 1
    return total


def is_held(form, lot):
    """Whether the form lies within one form of the lot; those of the lot are packed, with their marks."""
    one = packed(form)
    marks = marks_over(form)
    # One difference compares all bounds: just where the other bound is not the lesser one the mark stays.
    return any([(other - one) & marks == marks for other in lot])


def within_answer(machine, room, m):
    """("come", run) with a run within 1/m that comes to the room, or ("never", table)."""
    check_ask(machine, room)
    check_number(m, 1, MOST_M)
    kept = walked(machine, room, m)
    if kept[-1][0] == room:
        return ("come", run_to(machine, kept, m))
    return ("never", table_of(machine, kept, m))


def table_of(machine, kept, m):
    """The table of what the walk kept."""
    rows = [[] for _ in range(machine.rooms)]
    for place, form, ahead, door in kept:
        rows[place].append(formed_zone(machine.clocks, m, form))
    return tuple([tuple(row) for row in rows])


def run_to(machine, kept, m):
    """A run within 1/m to the last zone that the walk kept, found back from one of its points."""
    goal, form, ahead, door = kept[-1]
    target = least_numbers(form)
    steps = []
    while ahead is not None:
        stretch = wide_stretch(asked_at(machine, door), m, 1)
        resets = machine.doors[door][2]
        begins = met_form(kept[ahead][1], back_form(point_form(target), stretch, resets))
        point = least_numbers(begins)
        steps.append((reduced(wait_between(point, target, stretch, resets), m), door))
        target = point
        goal, form, ahead, door = kept[ahead]
    return tuple(steps[::-1])


def wait_between(point, target, stretch, resets):
    """The wait, counted by the unit, with which the door leads from a point to another one."""
    left = [clock for clock in range(len(point)) if clock not in resets]
    if left:
        return target[left[0]] - point[left[0]]
    return max([0] + [low - number for low, number in zip(stretch[0], point)])


def is_table(machine, room, m, value):
    """Whether the value is a table for the room."""
    check_ask(machine, room)
    check_number(m, 1, MOST_M)
    if not is_row(machine.rooms, value) or not all([are_zones(machine, m, row) for row in value]):
        return False
    start = ((0, 1),) * machine.clocks
    if value[room] or not any([zone.has(start) for zone in value[0]]):
        return False
    forms = [[zone.bounds for zone in row] for row in value]
    return do_hold(door_steps(machine, m), forms)


def are_zones(machine, m, value):
    """Whether the value is a tuple of zones of the machine, by the unit m, none of them empty."""
    if not isinstance(value, tuple) or not all([isinstance(zone, Zone) for zone in value]):
        return False
    return all([zone.clocks == machine.clocks and zone.unit == m and not zone.is_empty for zone in value])


def do_hold(steps, forms):
    """Whether what each door makes of each form of its room lies within one form of its goal."""
    lots = [[packed(form) | marks_over(form) for form in row] for row in forms]
    for rows, ahead in zip(steps, forms):
        for index, goal, stretch, resets in rows:
            made = [step_form(form, stretch, resets) for form in ahead]
            if not all([form is None or is_held(form, lots[goal]) for form in made]):
                return False
    return True


def least_margin(machine, room):
    """The least m from 1 to 64 for which no run within 1/m comes to the room, None if there is none."""
    check_ask(machine, room)
    m, kept = least_walk(machine, room)
    return m


def least_walk(machine, room):
    """The pair of the least m for which the walk does not come to the room, and of what this keeps, None for none."""
    for m in range(1, MOST_M + 1):
        kept = walked(machine, room, m)
        if kept[-1][0] != room:
            return (m, kept)
    return (None, None)

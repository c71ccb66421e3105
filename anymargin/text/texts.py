"""Texts of machines, runs, classes, chains and tables: written, read back, the first wrong line told."""
from anymargin.base.checks import check_number, is_from_to
from anymargin.clock.classes import MOST_CLOCKS, check_class, has_class_form
from anymargin.come.every import MOST_LINKS, check_chain, node_behind_link
from anymargin.come.plain import WAIT, first_node
from anymargin.errors import InvalidTable, ParseError
from anymargin.machine.machines import MOST_DOORS, MOST_ROOMS, Machine, are_limits, check_machine, has_door_form
from anymargin.machine.runs import MOST_STEPS, check_steps
from anymargin.text.pieces import are_bounds_written, joined_numbers, read_bounds, read_clocks, read_fraction
from anymargin.text.pieces import read_moves, read_number, read_numbers, read_pair, write_bound, write_clocks
from anymargin.text.pieces import write_fraction, write_move, write_pair
from anymargin.zone.closing import closed_form
from anymargin.zone.zones import MOST_UNIT, Zone

# What tells a machine before its first line: no clocks, no rooms, no doors.
NO_LINES = (None, (), ())


def text_of(lines):
    """The text of the lines."""
    return "".join([line + "\n" for line in lines])


def check_text(text):
    """Refuses what is not a string."""
    if not isinstance(text, str):
        raise ParseError(None)


def whole_lines(text):
    """The list of the lines of a text that have their newline."""
    return text.split("\n")[:-1]


def check_end(text, lacks):
    """Refuses a text whose last line lacks its newline, or that lacks something, all other lines being right."""
    if lacks or not text.endswith("\n") and text:
        raise ParseError(text.count("\n"))


def write_machine(machine):
    """The text of a machine."""
    check_machine(machine)
    lines = [f"clocks {machine.clocks}"]
    lines.extend([" ".join(["room"] + [str(limit) for limit in limits]) for limits in machine.limits])
    return text_of(lines + [door_line(door) for door in machine.doors])


def door_line(door):
    """The line of a door."""
    room, guards, resets, goal = door
    pieces = ["door", str(room)] + [write_pair(pair) for pair in guards]
    return " ".join(pieces + [write_clocks(resets), str(goal)])


def read_machine(text):
    """The machine that a text tells."""
    check_text(text)
    told = NO_LINES
    for index, line in enumerate(whole_lines(text)):
        told = with_line(told, line)
        if told is None:
            raise ParseError(index)
    clocks, limits, doors = told
    check_end(text, not limits)
    return Machine(clocks, limits, doors)


def with_line(told, line):
    """What tells a machine (clocks, limits, doors) with one more line, None if it is wrong there."""
    clocks, limits, doors = told
    pieces = line.split(" ")
    if pieces[0] == "clocks" and clocks is None and len(pieces) == 2:
        number = read_number(pieces[1])
        return (number, (), ()) if is_from_to(number, 1, MOST_CLOCKS) else None
    if pieces[0] == "room" and clocks is not None and not doors and len(limits) < MOST_ROOMS:
        row = tuple([read_number(piece) for piece in pieces[1:]])
        return (clocks, limits + (row,), ()) if are_limits(clocks, row) else None
    if pieces[0] == "door" and limits and len(doors) < MOST_DOORS and len(pieces) == clocks + 4:
        guards = tuple([read_pair(piece) for piece in pieces[2:-2]])
        door = (read_number(pieces[1]), guards, read_clocks(pieces[-2]), read_number(pieces[-1]))
        return (clocks, limits, doors + (door,)) if has_door_form(clocks, len(limits), door) else None
    return None


def write_run(run):
    """The text of a run of some machine."""
    check_steps(run)
    return text_of([f"step {write_fraction(wait)} {door}" for wait, door in run])


def read_run(machine, text):
    """The run of the machine that a text tells."""
    check_machine(machine)
    check_text(text)
    steps = []
    room = 0
    for index, line in enumerate(whole_lines(text)):
        step = read_step(line)
        if step is None or index == MOST_STEPS or not is_from_to(step[1], 0, len(machine.doors) - 1):
            raise ParseError(index)
        if machine.doors[step[1]][0] != room:
            raise ParseError(index)
        room = machine.doors[step[1]][3]
        steps.append(step)
    check_end(text, False)
    return tuple(steps)


def read_step(line):
    """The pair (wait, number) that a line tells, None if it is not written as a step with a wait from 0 on."""
    pieces = line.split(" ")
    if len(pieces) != 3 or pieces[0] != "step":
        return None
    wait = read_fraction(pieces[1])
    return None if wait is None or wait[0] < 0 else (wait, read_number(pieces[2]))


def write_class(cls):
    """The piece of a class."""
    check_class(cls)
    return class_piece(cls)


def class_piece(cls):
    """What `write_class` tells, without checks."""
    groups = "|".join([joined_numbers(group) for group in cls[1]])
    return f"{joined_numbers(cls[0])}:{groups}"


def read_class(clocks, text):
    """The class of so many clocks that a piece tells, None for each other string."""
    check_number(clocks, 1, MOST_CLOCKS)
    check_text(text)
    return class_told(clocks, text)


def class_told(clocks, piece):
    """What `read_class` tells, without checks."""
    parts = piece.split(":")
    if len(parts) != 2:
        return None
    groups = parts[1].split("|")
    order = [() if group == "" else read_numbers(group, ",") for group in groups]
    cls = (read_numbers(parts[0], ","), tuple(order))
    return cls if has_class_form(clocks, cls) else None


def write_chain(machine, chain):
    """The text of a chain."""
    check_machine(machine)
    check_chain(machine, chain)
    return text_of([link_line(link) for link in chain])


def link_line(link):
    """The line of a link."""
    if link[0] != "round":
        return " ".join([str(part) for part in link])
    moves = ".".join([write_move(move) for move in link[2]])
    return f"round {class_piece(link[1])} {moves} {class_piece(link[3])}"


def read_chain(machine, text):
    """The chain of the machine that a text tells."""
    check_machine(machine)
    check_text(text)
    links = []
    node = first_node(machine)
    for index, line in enumerate(whole_lines(text)):
        link = read_link(machine.clocks, line)
        node = None if link is None or index == MOST_LINKS else node_behind_link(machine, node, link)
        if node is None:
            raise ParseError(index)
        links.append(link)
    check_end(text, False)
    return tuple(links)


def read_link(clocks, line):
    """The link that a line tells, None if it is not written as one."""
    pieces = line.split(" ")
    if line == "wait":
        return WAIT
    if pieces[0] == "door" and len(pieces) == 2:
        return ("door", read_number(pieces[1]))
    if pieces[0] != "round" or len(pieces) != 4:
        return None
    return ("round", class_told(clocks, pieces[1]), read_moves(pieces[2]), class_told(clocks, pieces[3]))


def write_table(table):
    """The text of a table."""
    if not is_zone_table(table):
        raise InvalidTable("not a tuple of tuples of zones that are alike")
    zones = [(room, zone) for room in range(len(table)) for zone in table[room]]
    lines = [" ".join(["zone", str(room)] + [write_bound(bound) for row in zone.bounds for bound in row])
             for room, zone in zones]
    return text_of([f"unit {zones[0][1].unit}"] + lines)


def is_zone_table(value):
    """Whether the value is a tuple of tuples of zones, at least one, alike and not empty."""
    if not isinstance(value, tuple) or not 1 <= len(value) <= MOST_ROOMS:
        return False
    if not all([isinstance(row, tuple) for row in value]):
        return False
    zones = [zone for row in value for zone in row]
    if not zones or not all([isinstance(zone, Zone) and not zone.is_empty for zone in zones]):
        return False
    return all([zone.clocks == zones[0].clocks and zone.unit == zones[0].unit for zone in zones])


def read_table(machine, text):
    """The table that a text tells, with as many rooms as the machine."""
    check_machine(machine)
    check_text(text)
    unit = None
    rows = [[] for _ in range(machine.rooms)]
    lowest = 0
    for index, line in enumerate(whole_lines(text)):
        if index == 0:
            unit = read_unit(line)
        else:
            lowest, bounds = read_zone(machine, lowest, line)
        if unit is None or lowest is None:
            raise ParseError(index)
        if index > 0:
            rows[lowest].append(Zone(machine.clocks, unit, bounds))
    check_end(text, not any([list(row) for row in rows]))
    return tuple([tuple(row) for row in rows])


def read_unit(line):
    """The unit that a line tells, None if it is wrong."""
    pieces = line.split(" ")
    if len(pieces) != 2 or pieces[0] != "unit":
        return None
    unit = read_number(pieces[1])
    return unit if is_from_to(unit, 1, MOST_UNIT) else None


def read_zone(machine, lowest, line):
    """The pair (room, bounds) that a line tells, the room from the lowest one on; (None, None) if it is wrong."""
    pieces = line.split(" ")
    size = machine.clocks + 1
    if pieces[0] != "zone" or len(pieces) != size * size + 2 or not are_bounds_written(pieces[2:]):
        return (None, None)
    room = read_number(pieces[1])
    bounds = read_bounds(pieces[2:], size)
    if not is_from_to(room, lowest, machine.rooms - 1) or closed_form(bounds) != bounds:
        return (None, None)
    return (room, bounds)

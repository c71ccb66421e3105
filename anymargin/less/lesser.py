"""Lesser machines: without rooms that no doors lead to, without covered clocks, alike rooms taken once."""
from anymargin.base.checks import is_ascending
from anymargin.base.graphs import reached
from anymargin.machine.machines import Machine, check_machine, room_graph
from anymargin.machine.runs import check_its_run


def came(machine):
    """The ascending tuple of the rooms to which doors lead from room 0, whatever guards they have."""
    check_machine(machine)
    return rooms_reached(machine)


def rooms_reached(machine):
    """What `came` tells, without checks."""
    return reached(room_graph(machine), (0,))


def covers(machine):
    """The ascending tuple of all pairs (c, b) of clocks, c covered by b."""
    check_machine(machine)
    return covered_pairs(machine)


def covered_pairs(machine):
    """What `covers` tells, without checks."""
    clocks = range(machine.clocks)
    return tuple([(c, b) for c in clocks for b in clocks if c != b and is_covered(machine, c, b)])


def is_covered(machine, c, b):
    """Whether a clock is covered by another one."""
    if any([limits[c] < limits[b] for limits in machine.limits]):
        return False
    for room, guards, resets, goal in machine.doors:
        if b in resets and c not in resets:
            return False
        low, high = guards[c]
        if low > 0 or high < min(guards[b][1], machine.limits[room][b]):
            return False
    return True


def alike(machine):
    """The lots of alike rooms, ascending tuples, by their least rooms."""
    check_machine(machine)
    return lots_of(alike_places(machine))


def alike_places(machine):
    """For each room the place of its lot of alike rooms, the lots being told by their least rooms."""
    found = numbered(machine.limits)
    # Rooms that do not lead alike are parted, until none are; there are no more lots than rooms.
    for _ in machine.limits:
        found = numbered([(found[room], ways_from(machine, found, room)) for room in range(machine.rooms)])
    return found


def ways_from(machine, lots, room):
    """The ascending tuple of what doors of a room are: the guards, the resets, and the place of the goal's lot."""
    doors = [door for door in machine.doors if door[0] == room]
    return tuple(sorted({(guards, resets, lots[goal]) for begin, guards, resets, goal in doors}))


def numbered(marks):
    """For each mark how many unlike ones stand ahead of the first one that is equal to it."""
    numbers = {}
    for mark in marks:
        numbers.setdefault(mark, len(numbers))
    return [numbers[mark] for mark in marks]


def lots_of(found):
    """The tuple of the lots of the rooms with equal places."""
    rooms = range(len(found))
    return tuple([tuple([room for room in rooms if found[room] == place]) for place in range(max(found) + 1)])


def are_fair(machine, value):
    """Whether the value is fair lots of the rooms."""
    check_machine(machine)
    if not isinstance(value, tuple) or not all([is_ascending(machine.rooms, lot) and lot for lot in value]):
        return False
    if sorted([room for lot in value for room in lot]) != list(range(machine.rooms)):
        return False
    if not all([lot[0] < further[0] for lot, further in zip(value, value[1:])]):
        return False
    found = {room: place for place, lot in enumerate(value) for room in lot}
    return all([do_lead_alike(machine, found, lot) for lot in value])


def do_lead_alike(machine, lots, lot):
    """Whether the rooms of a lot have the same limits, and doors that are alike."""
    marks = [(machine.limits[room], ways_from(machine, lots, room)) for room in lot]
    return all([mark == marks[0] for mark in marks])


def lesser(machine):
    """The lesser machine."""
    check_machine(machine)
    return lessened(machine)[0]


def places(machine):
    """The triple of tuples with the place of each room, clock and door in the lesser machine, None for none."""
    check_machine(machine)
    return lessened(machine)[1]


def lessened(machine):
    """The pair of the lesser machine and of the places in it."""
    rooms = rooms_reached(machine)
    part, clocks = without_covered(with_rooms(machine, rooms))
    lots = alike_places(part)
    firsts = [lot[0] for lot in lots_of(lots)]
    doors = [(lots[door[0]], door[1], door[2], lots[door[3]]) for door in part.doors]
    kept = []
    for door, whole in zip(doors, part.doors):
        if whole[0] in firsts and door not in kept:
            kept.append(door)
    told = Machine(part.clocks, tuple([part.limits[room] for room in firsts]), tuple(kept))
    left = [index for index in range(len(machine.doors)) if machine.doors[index][0] in rooms]
    found = (placed(machine.rooms, rooms, lots), placed(machine.clocks, clocks, list(range(len(clocks)))),
             placed(len(machine.doors), left, [kept.index(door) for door in doors]))
    return told, found


def without_covered(machine):
    """The pair of the machine from which the least covered clock is left out, again and again, and of the others."""
    clocks = list(range(machine.clocks))
    pairs = covered_pairs(machine)
    while pairs:
        left = [clock for clock in range(machine.clocks) if clock != pairs[0][0]]
        clocks = [clocks[clock] for clock in left]
        machine = with_clocks(machine, left)
        pairs = covered_pairs(machine)
    return machine, clocks


def placed(many, left, numbers):
    """The tuple of the numbers of what is left of so many, None for each other one."""
    found = dict(zip(left, numbers))
    return tuple([found.get(at) for at in range(many)])


def with_rooms(machine, rooms):
    """The machine with some of its rooms alone, and their doors, which lead to such rooms."""
    numbers = {room: place for place, room in enumerate(rooms)}
    doors = [(numbers[door[0]], door[1], door[2], numbers[door[3]]) for door in machine.doors if door[0] in numbers]
    return Machine(machine.clocks, tuple([machine.limits[room] for room in rooms]), tuple(doors))


def with_clocks(machine, clocks):
    """The machine with some of its clocks alone."""
    numbers = {clock: place for place, clock in enumerate(clocks)}
    doors = []
    for room, guards, resets, goal in machine.doors:
        left = tuple([numbers[clock] for clock in resets if clock in numbers])
        doors.append((room, tuple([guards[clock] for clock in clocks]), left, goal))
    limits = [tuple([row[clock] for clock in clocks]) for row in machine.limits]
    return Machine(len(clocks), tuple(limits), tuple(doors))


def led_there(machine, run):
    """The run of the lesser machine that a run leads to."""
    check_machine(machine)
    check_its_run(machine, run)
    doors = lessened(machine)[1][2]
    return tuple([(wait, doors[door]) for wait, door in run])


def led_back(machine, run):
    """The run that a run of the lesser machine leads to."""
    check_machine(machine)
    told, (rooms, clocks, doors) = lessened(machine)
    check_its_run(told, run)
    steps = []
    room = 0
    for wait, place in run:
        door = [index for index in machine.doors_from(room) if doors[index] == place][0]
        steps.append((wait, door))
        room = machine.doors[door][3]
    return tuple(steps)

"""Machines with rooms, doors and clocks; their loose rounds, or falls."""
from anymargin.base.checks import GREATEST, are_guards, are_numbers, check_number, is_ascending, is_from_to, is_row
from anymargin.base.graphs import round_through
from anymargin.errors import InvalidMachine, InvalidOperation, TooMany

MOST_CLOCKS = 3
MOST_ROOMS = 6
MOST_DOORS = 12
MOST_NUMBER = 4


def is_guards(clocks, value):
    """Whether the value is guards for so many clocks."""
    check_number(clocks, 1, MOST_CLOCKS)
    return are_guards(clocks, MOST_NUMBER, value)


def is_door(clocks, rooms, value):
    """Whether the value is a door of a machine with so many clocks and rooms."""
    check_number(clocks, 1, MOST_CLOCKS)
    check_number(rooms, 1, MOST_ROOMS)
    return has_door_form(clocks, rooms, value)


def has_door_form(clocks, rooms, value):
    """What `is_door` tells, without checks of the numbers."""
    if not is_row(4, value):
        return False
    room, guards, resets, goal = value
    leads = is_from_to(room, 0, rooms - 1) and is_from_to(goal, 0, rooms - 1)
    return leads and are_guards(clocks, MOST_NUMBER, guards) and is_ascending(clocks, resets)


def are_limits(clocks, value):
    """Whether the value is limits of a room with so many clocks."""
    return are_numbers(clocks, 0, MOST_NUMBER, value)


def machine_fault(clocks, limits, doors):
    """The first fault of three values that tell a machine, None if there is none."""
    if not is_from_to(clocks, 1, MOST_CLOCKS):
        return ("clocks",)
    if not isinstance(limits, tuple) or not 1 <= len(limits) <= MOST_ROOMS:
        return ("rooms",)
    for room in range(len(limits)):
        if not are_limits(clocks, limits[room]):
            return ("limits", room)
    if not isinstance(doors, tuple) or len(doors) > MOST_DOORS:
        return ("doors",)
    for index in range(len(doors)):
        if not has_door_form(clocks, len(limits), doors[index]):
            return ("door", index)
    return None


class Machine:
    """A machine; it never changes."""

    def __init__(self, clocks, limits, doors):
        if machine_fault(clocks, limits, doors) is not None:
            raise InvalidMachine("not a machine")
        self._clocks = clocks
        self._limits = limits
        self._doors = doors

    @property
    def clocks(self):
        """How many clocks there are."""
        return self._clocks

    @property
    def limits(self):
        """The tuple of the limits of all rooms."""
        return self._limits

    @property
    def doors(self):
        """The tuple of the doors."""
        return self._doors

    @property
    def rooms(self):
        """How many rooms there are."""
        return len(self._limits)

    def doors_from(self, room):
        """The ascending tuple of the doors that lead out of a room."""
        check_number(room, 0, len(self._limits) - 1)
        return tuple([index for index in range(len(self._doors)) if self._doors[index][0] == room])

    def __eq__(self, other):
        if not isinstance(other, Machine):
            return False
        return self._clocks == other.clocks and self._limits == other.limits and self._doors == other.doors

    def __str__(self):
        return f"machine of {self._clocks} clocks, {len(self._limits)} rooms, {len(self._doors)} doors"


def room_graph(machine):
    """The tuple that has for each room the ascending tuple of the rooms to which doors lead from it."""
    rooms = range(machine.rooms)
    return tuple([tuple(sorted({door[3] for door in machine.doors if door[0] == room})) for room in rooms])


def check_machine(machine):
    """Refuses a value that is no machine."""
    if not isinstance(machine, Machine):
        raise InvalidMachine("not a machine")


def asked_at(machine, index):
    """For each clock the pair (low, high) of what a door asks for ahead of it, also by the limits of both rooms."""
    room, guards, resets, goal = machine.doors[index]
    asked = []
    for clock in range(machine.clocks):
        low, high = guards[clock]
        high = min(high, machine.limits[room][clock])
        # A clock that is put back keeps each limit of the goal.
        asked.append((low, high if clock in resets else min(high, machine.limits[goal][clock])))
    return tuple(asked)


def is_tight(machine):
    """Whether there is no loose round."""
    for clock in range(machine.clocks):
        pairs = [(door[0], door[3]) for door in machine.doors if clock not in door[2]]
        many = 0
        # Doors to rooms from which no such door leads on are on no round: without a round all are left out in the end.
        while len(pairs) != many:
            many = len(pairs)
            begins = [room for room, goal in pairs]
            pairs = [pair for pair in pairs if pair[1] in begins]
        if pairs:
            return False
    return True


def loose_round(machine):
    """A loose round (doors, clock), None if there is none."""
    check_machine(machine)
    if is_tight(machine):
        return None
    for clock in range(machine.clocks):
        rooms = row_of_rooms(machine, clock)
        if rooms is not None:
            return (doors_along(machine, clock, rooms), clock)
    return None


def row_of_rooms(machine, clock):
    """A row of rooms round which doors lead that do not put the clock back, None if there is none."""
    graph = tuple([goals_from(machine, clock, room) for room in range(machine.rooms)])
    for room in range(machine.rooms):
        rooms = round_through(graph, room)
        if rooms is not None:
            return rooms
    return None


def doors_not_back(machine, clock):
    """The list of the doors that do not put the clock back."""
    doors = machine.doors
    return [index for index in range(len(doors)) if clock not in doors[index][2]]


def goals_from(machine, clock, room):
    """The ascending tuple of the rooms to which doors lead from a room that do not put the clock back."""
    doors = [machine.doors[index] for index in doors_not_back(machine, clock)]
    return tuple(sorted({door[3] for door in doors if door[0] == room}))


def doors_along(machine, clock, rooms):
    """A tuple of doors that do not put the clock back, from each room to the next one, and back to the first one."""
    least = {}
    for index in reversed(doors_not_back(machine, clock)):
        door = machine.doors[index]
        least[(door[0], door[3])] = index
    return tuple([least[pair] for pair in zip(rooms, rooms[1:] + rooms[:1])])


def is_loose(machine, value):
    """Whether the value is a loose round."""
    check_machine(machine)
    if not is_row(2, value) or not isinstance(value[0], tuple) or not value[0]:
        return False
    row, clock = value
    if not is_from_to(clock, 0, machine.clocks - 1) or not are_numbers(len(row), 0, len(machine.doors) - 1, row):
        return False
    doors = [machine.doors[index] for index in row]
    leads = all([door[3] == further[0] for door, further in zip(doors, doors[1:] + doors[:1])])
    return leads and not any([clock in door[2] for door in doors])


def falls(machine):
    """Falls of the machine, None if there are none."""
    if loose_round(machine) is not None:
        return None
    return tuple([heights(machine, clock) for clock in range(machine.clocks)])


def heights(machine, clock):
    """For each room the greatest number of doors, one behind the other, that do not put the clock back."""
    rows = [goals_from(machine, clock, room) for room in range(machine.rooms)]
    found = [0] * machine.rooms
    # Without a round no such row has more doors than there are rooms.
    for _ in rows:
        found = [max([0] + [found[goal] + 1 for goal in row]) for row in rows]
    return tuple(found)


def is_falls(machine, value):
    """Whether the value is falls of the machine."""
    check_machine(machine)
    if not is_row(machine.clocks, value):
        return False
    if not all([are_numbers(machine.rooms, -GREATEST, GREATEST, row) for row in value]):
        return False
    return all([does_fall(machine, clock, value[clock]) for clock in range(machine.clocks)])


def does_fall(machine, clock, row):
    """Whether each door that does not put the clock back leads to a lesser integer of the row."""
    return all([row[door[0]] > row[door[3]] for door in machine.doors if clock not in door[2]])


def with_door(machine, door):
    """The machine with one more door, behind the others."""
    check_machine(machine)
    if not has_door_form(machine.clocks, machine.rooms, door):
        raise InvalidOperation("not a door of the machine")
    if len(machine.doors) == MOST_DOORS:
        raise TooMany(MOST_DOORS)
    return Machine(machine.clocks, machine.limits, machine.doors + (door,))


def without_doors(machine, lot):
    """The machine without some doors."""
    check_machine(machine)
    if not is_ascending(len(machine.doors), lot):
        raise InvalidOperation("not an ascending tuple of doors of the machine")
    left = [machine.doors[index] for index in range(len(machine.doors)) if index not in lot]
    return Machine(machine.clocks, machine.limits, tuple(left))


def with_limits(machine, room, limits):
    """The machine with other limits of a room."""
    check_machine(machine)
    check_number(room, 0, machine.rooms - 1)
    if not are_limits(machine.clocks, limits):
        raise InvalidOperation("not limits of the machine")
    rows = machine.limits[:room] + (limits,) + machine.limits[room + 1:]
    return Machine(machine.clocks, rows, machine.doors)

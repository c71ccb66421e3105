"""Nets: two machines side by side, with doors through which both go at once."""
from anymargin.base.checks import check_number, is_from_to, is_row
from anymargin.base.exact import ZERO, difference_of, order_of, sum_of, total_of
from anymargin.base.fractions import is_from_zero
from anymargin.errors import InvalidOperation, InvalidRun, Refused, TooMany
from anymargin.machine.machines import MOST_CLOCKS, MOST_DOORS, MOST_NUMBER, MOST_ROOMS, Machine, check_machine
from anymargin.machine.runs import MOST_STEPS, all_above, greatest_of, has_run_form, last_room, moments_of, needed_by
from anymargin.machine.runs import visits, waited


class Net:
    """Two machines side by side; it never changes."""

    def __init__(self, one, other, shared):
        check_machine(one)
        check_machine(other)
        if not are_pairs(one, other, shared):
            raise InvalidOperation("not an ascending tuple of pairs of doors of both")
        if one.clocks + other.clocks > MOST_CLOCKS:
            raise TooMany(MOST_CLOCKS)
        if one.rooms * other.rooms > MOST_ROOMS:
            raise TooMany(MOST_ROOMS)
        rows = door_rows(one, other, shared)
        if len(rows) > MOST_DOORS:
            raise TooMany(MOST_DOORS)
        limits = [ahead + behind for ahead in one.limits for behind in other.limits]
        doors = [net_door(one, other, row) for row in rows]
        self._one = one
        self._other = other
        self._shared = shared
        self._sides = tuple([row[:2] for row in rows])
        self._machine = Machine(one.clocks + other.clocks, tuple(limits), tuple(doors))

    @property
    def one(self):
        """The first machine."""
        return self._one

    @property
    def other(self):
        """The second machine."""
        return self._other

    @property
    def shared(self):
        """The pairs of doors through which both go at once."""
        return self._shared

    @property
    def machine(self):
        """The machine that the net is."""
        return self._machine

    def room(self, a, b):
        """The index of the room (a, b)."""
        check_number(a, 0, self._one.rooms - 1)
        check_number(b, 0, self._other.rooms - 1)
        return a * self._other.rooms + b

    def pair(self, room):
        """The pair of rooms that a room of the net is."""
        check_number(room, 0, self._machine.rooms - 1)
        return divmod(room, self._other.rooms)

    def sides(self, door):
        """The pair of the doors that go in a door of the net, None for a side that stays."""
        check_number(door, 0, len(self._sides) - 1)
        return self._sides[door]

    def __eq__(self, other):
        if not isinstance(other, Net):
            return False
        return self._one == other.one and self._other == other.other and self._shared == other.shared

    def __str__(self):
        return f"net of {self._one.rooms} and {self._other.rooms} rooms, {len(self._shared)} shared"


def are_pairs(one, other, value):
    """Whether the value is an ascending tuple of pairs of a door of one and a door of other."""
    if not isinstance(value, tuple):
        return False
    for pair in value:
        if not is_row(2, pair) or not is_from_to(pair[0], 0, len(one.doors) - 1):
            return False
        if not is_from_to(pair[1], 0, len(other.doors) - 1):
            return False
    return all([pair < further for pair, further in zip(value, value[1:])])


def door_rows(one, other, shared):
    """The list of (door of one, door of other, room of one, room of other) for the doors, None for a side that stays.

    The rooms are those from which the door leads.
    """
    firsts = [i for i in range(len(one.doors)) if i not in [pair[0] for pair in shared]]
    lasts = [j for j in range(len(other.doors)) if j not in [pair[1] for pair in shared]]
    rows = [(i, None, one.doors[i][0], b) for i in firsts for b in range(other.rooms)]
    rows.extend([(None, j, a, other.doors[j][0]) for j in lasts for a in range(one.rooms)])
    rows.extend([(i, j, one.doors[i][0], other.doors[j][0]) for i, j in shared])
    return rows


def net_door(one, other, row):
    """The door of the net that such a row tells."""
    i, j, a, b = row
    first, goal = side_door(one, i, a)
    last, far = side_door(other, j, b)
    resets = first[1] + tuple([clock + one.clocks for clock in last[1]])
    return (a * other.rooms + b, first[0] + last[0], resets, goal * other.rooms + far)


def side_door(machine, index, room):
    """The pair ((guards, resets), goal) that a side brings from its room, also if it stays."""
    if index is None:
        return (((0, MOST_NUMBER),) * machine.clocks, ()), room
    _, guards, resets, goal = machine.doors[index]
    return (guards, resets), goal


def check_net(net):
    """Refuses a value that is no net."""
    if not isinstance(net, Net):
        raise InvalidOperation("not a net")


def is_stay(machine, value):
    """Whether the value has the form of a stay."""
    check_machine(machine)
    return has_stay_form(machine, value)


def has_stay_form(machine, value):
    """What `is_stay` tells, without a check of the machine."""
    return is_row(2, value) and has_run_form(machine, value[0]) and is_from_zero(value[1])


def check_stay(machine, stay):
    """Refuses what is not a stay of the machine."""
    if not has_stay_form(machine, stay):
        raise InvalidRun("not a stay of the machine")


def stay_length(machine, stay):
    """The sum of all waits of the stay and of its rest."""
    check_machine(machine)
    check_stay(machine, stay)
    return length_of(stay)


def length_of(stay):
    """What `stay_length` tells, without checks."""
    run, rest = stay
    return total_of([wait for wait, door in run] + [rest])


def stay_needed(machine, stay):
    """The least margin within which the stay goes."""
    check_machine(machine)
    check_stay(machine, stay)
    run, rest = stay
    standing = visits(machine, run)
    readings = standing[-1][1] if standing else (ZERO,) * machine.clocks
    at_end = all_above(waited(readings, rest), machine.limits[last_room(machine, run)])
    return greatest_of((needed_by(machine, run),) + at_end)


def split(net, stay):
    """The pair of the stays of both sides."""
    check_net(net)
    check_stay(net.machine, stay)
    return (side_stay(net, stay, 0), side_stay(net, stay, 1))


def side_stay(net, stay, side):
    """The stay of one side: what it waits in pieces it waits at once."""
    run, rest = stay
    steps = []
    waiting = ZERO
    for wait, door in run:
        waiting = sum_of(waiting, wait)
        own = net.sides(door)[side]
        if own is not None:
            steps.append((waiting, own))
            waiting = ZERO
    return (tuple(steps), sum_of(waiting, rest))


def joint_fault(net, first, last):
    """Why both stays cannot be joined: ("length",) or ("shared", k), None if they can."""
    check_joint(net, first, last)
    return fault_between(net, first, last)


def check_joint(net, first, last):
    """Refuses what is not a net, a stay of one and a stay of other."""
    check_net(net)
    check_stay(net.one, first)
    check_stay(net.other, last)


def fault_between(net, first, last):
    """What `joint_fault` tells, without checks."""
    if length_of(first) != length_of(last):
        return ("length",)
    ones = [row for row in times_of(net, first, 0) if row[2]]
    others = [row for row in times_of(net, last, 1) if row[2]]
    for k in range(max([len(ones), len(others)])):
        if k >= len(ones) or k >= len(others) or ones[k][0] != others[k][0]:
            return ("shared", k)
        if (ones[k][1], others[k][1]) not in net.shared:
            return ("shared", k)
    return None


def times_of(net, stay, side):
    """The list of (moment, door, whether it is shared) of the doors of a stay of one side."""
    shared = [pair[side] for pair in net.shared]
    run = stay[0]
    return [(moment, step[1], step[1] in shared) for moment, step in zip(moments_of(run), run)]


def joined(net, first, last):
    """A stay of the net that is split in both."""
    check_joint(net, first, last)
    fault = fault_between(net, first, last)
    if fault is not None:
        raise Refused(fault)
    rows = merged(times_of(net, first, 0), times_of(net, last, 1))
    if len(rows) > MOST_STEPS:
        raise TooMany(MOST_STEPS)
    steps = []
    room = 0
    now = ZERO
    doors = doors_by_sides(net)
    for moment, sides in rows:
        door = doors[(sides, room)]
        steps.append((difference_of(moment, now), door))
        room = net.machine.doors[door][3]
        now = moment
    return (tuple(steps), difference_of(length_of(first), now))


def merged(ones, others):
    """The list of (moment, sides) in the sequence of the moments, for stays that can be joined."""
    found = []
    at = 0
    by = 0
    while at < len(ones) or by < len(others):
        # A shared door waits until it is the next one of both sides.
        one_goes = at < len(ones) and not ones[at][2]
        other_goes = by < len(others) and not others[by][2]
        if one_goes and (not other_goes or order_of(ones[at][0], others[by][0]) <= 0):
            found.append((ones[at][0], (ones[at][1], None)))
            at += 1
        elif other_goes:
            found.append((others[by][0], (None, others[by][1])))
            by += 1
        else:
            found.append((ones[at][0], (ones[at][1], others[by][1])))
            at += 1
            by += 1
    return found


def doors_by_sides(net):
    """For the doors that go and the room of the net from which they lead, the door of the net."""
    doors = net.machine.doors
    return {(net.sides(index), doors[index][0]): index for index in range(len(doors))}


def is_joined(net, first, last, value):
    """Whether the value is a stay of the net that is split in both."""
    check_joint(net, first, last)
    if not has_stay_form(net.machine, value):
        return False
    return side_stay(net, value, 0) == first and side_stay(net, value, 1) == last

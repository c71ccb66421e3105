"""Whole readings that are come to, as bits of integers: one integer for each room, one bit for each row of readings."""
from anymargin.machine.machines import asked_at

# How far a bit moves when the reading of a clock grows by 1. Each reading is a figure from 0 to 5, one more than it can
# be: so none runs into the next one.
WIDTHS = (1, 6, 36)
MOST = 4


def box(pairs):
    """The bits of all rows of whole readings with each one from its low to its high number."""
    bits = 1
    for clock in range(len(pairs)):
        low, high = pairs[clock]
        row = 0
        for number in range(low, high + 1):
            row |= bits << number * WIDTHS[clock]
        bits = row
    return bits


def bit_of(readings):
    """The bit of a row of whole readings."""
    return 1 << sum([number * width for number, width in zip(readings, WIDTHS)])


def plan_of(machine):
    """What has to be known of a machine: (bits of each room, doors from each room, bits at 0 of each clock, step)."""
    clocks = range(machine.clocks)
    rooms = [box([(0, limit) for limit in limits]) for limits in machine.limits]
    doors = [[] for _ in rooms]
    for index in range(len(machine.doors)):
        room, _, resets, goal = machine.doors[index]
        doors[room].append((box(asked_at(machine, index)), resets, goal))
    zeros = [box([(0, 0 if other == clock else MOST) for other in clocks]) for clock in clocks]
    return (rooms, doors, zeros, sum(WIDTHS[:machine.clocks]))


def waited_on(plan, room, bits):
    """The bits with those that waiting in the room leads to."""
    rooms, doors, zeros, step = plan
    more = bits
    while more:
        more = more << step & rooms[room] & ~bits
        bits |= more
    return bits


def at_zero(plan, bits, clocks):
    """The bits of what stands there when some clocks are put back."""
    for clock in clocks:
        row = bits
        for number in range(1, MOST + 1):
            row |= bits >> number * WIDTHS[clock]
        bits = row & plan[2][clock]
    return bits


def come_on(plan, points, rooms):
    """Adds to the points of the rooms what is come to from them, by way of those rooms whose points are new."""
    rooms = list(rooms)
    for room in rooms:
        points[room] = waited_on(plan, room, points[room])
    while rooms:
        room = rooms.pop()
        for asked, resets, goal in plan[1][room]:
            behind = at_zero(plan, points[room] & asked, resets)
            if behind & ~points[goal]:
                points[goal] = waited_on(plan, goal, points[goal] | behind)
                if goal not in rooms:
                    rooms.append(goal)


def first_points(machine, plan):
    """For each room the whole readings that are come to exactly."""
    points = [0] * machine.rooms
    points[0] = 1
    come_on(plan, points, [0])
    return points

"""Runs of machines: waits, and the doors gone through; how far they miss bounds."""
from math import gcd, lcm

from anymargin.base.checks import GREATEST, check_number
from anymargin.base.exact import UNIT, ZERO, difference_of, order_of, product_of, reduced, sum_of, total_of
from anymargin.base.fractions import is_from_zero
from anymargin.errors import InvalidFraction, InvalidOperation, InvalidRun
from anymargin.machine.machines import MOST_DOORS, asked_at, check_machine

MOST_STEPS = 20000

# All waits of a run are counted by a common bottom if it is not longer than this.
MOST_COMMON = 10 ** 60

# The bounds of a step, in the sequence in which they are looked at.
WORDS = ("stay", "low", "high", "enter")


def are_steps(value):
    """Whether the value is a tuple, not too long, of pairs of a wait and an index that some door can have."""
    if not isinstance(value, tuple) or len(value) > MOST_STEPS:
        return False
    # Runs are long: so all that is asked of a step is asked here, without calls of other checks.
    for step in value:
        if not isinstance(step, tuple) or len(step) != 2 or not isinstance(step[0], tuple) or len(step[0]) != 2:
            return False
        (top, bottom), door = step
        if not isinstance(top, int) or not isinstance(bottom, int) or not isinstance(door, int):
            return False
        if isinstance(top, bool) or isinstance(bottom, bool) or isinstance(door, bool):
            return False
        if not 0 <= top <= GREATEST or not 0 < bottom <= GREATEST or not 0 <= door < MOST_DOORS:
            return False
        if bottom > 1 and gcd(top, bottom) > 1:
            return False
    return True


def check_steps(run):
    """Refuses what has not the form of a run of some machine."""
    if not are_steps(run):
        raise InvalidRun("not the steps of a run")


def do_follow(machine, indices):
    """Whether the doors, told by integers from 0 on, are there, and lead on one from another from the room 0."""
    room = 0
    doors = machine.doors
    for index in indices:
        if index >= len(doors) or doors[index][0] != room:
            return False
        room = doors[index][3]
    return True


def doors_of(run):
    """The tuple of the doors of a run."""
    return tuple([door for wait, door in run])


def is_run(machine, value):
    """Whether the value is a run of the machine."""
    check_machine(machine)
    return has_run_form(machine, value)


def has_run_form(machine, value):
    """What `is_run` tells, without a check of the machine."""
    return are_steps(value) and do_follow(machine, doors_of(value))


def check_run(machine, run):
    """Refuses what is not a machine and a run of it."""
    check_machine(machine)
    check_its_run(machine, run)


def check_its_run(machine, run):
    """Refuses what is not a run of the machine."""
    if not has_run_form(machine, run):
        raise InvalidRun("not a run of the machine")


def check_margin(margin):
    """Refuses what is not a fraction from 0 on."""
    if not is_from_zero(margin):
        raise InvalidFraction("not a fraction from 0 on")


def waited(readings, wait):
    """The readings after a wait."""
    return tuple([sum_of(reading, wait) for reading in readings])


def with_zeros(readings, clocks):
    """The readings, those of some clocks put back to 0."""
    return tuple([ZERO if clock in clocks else readings[clock] for clock in range(len(readings))])


def visits(machine, run):
    """The list that has for each step the pair of the readings ahead of the door and of those behind it."""
    readings = (ZERO,) * machine.clocks
    found = []
    for wait, index in run:
        ahead = waited(readings, wait)
        readings = with_zeros(ahead, machine.doors[index][2])
        found.append((ahead, readings))
    return found


def standings(machine, run):
    """The tuple of the standings, at the beginning and behind each door."""
    check_run(machine, run)
    goals = [machine.doors[index][3] for wait, index in run]
    rows = [(goal, behind) for goal, (ahead, behind) in zip(goals, visits(machine, run))]
    return ((0, (ZERO,) * machine.clocks),) + tuple(rows)


def moments(run):
    """The tuple of the moments of all steps."""
    check_steps(run)
    return moments_of(run)


def moments_of(run):
    """What `moments` tells, without checks."""
    found = []
    now = ZERO
    for wait, door in run:
        now = sum_of(now, wait)
        found.append(now)
    return tuple(found)


def time_of(run):
    """The moment of the last step, 0 without steps."""
    check_steps(run)
    return total_of([wait for wait, door in run])


def misses(machine, run):
    """The tuple that has for each step the misses of all clocks, by words."""
    check_run(machine, run)
    return tuple([dict(zip(WORDS, rows)) for rows in miss_rows(machine, run)])


def miss_rows(machine, run):
    """The list that has for each step, by words, the tuples of the misses of all clocks."""
    return [step_misses(machine, index, ahead, behind)
            for (wait, index), (ahead, behind) in zip(run, visits(machine, run))]


def step_misses(machine, index, ahead, behind):
    """For each word the tuple of the misses of all clocks at a door."""
    room, guards, resets, goal = machine.doors[index]
    lows = [low for low, high in guards]
    highs = [high for low, high in guards]
    low = tuple([beyond((number, 1), reading) for number, reading in zip(lows, ahead)])
    return (all_above(ahead, machine.limits[room]), low, all_above(ahead, highs),
            all_above(behind, machine.limits[goal]))


def all_above(readings, numbers):
    """The tuple of how far the readings lie above the numbers."""
    return tuple([beyond(reading, (number, 1)) for reading, number in zip(readings, numbers)])


def beyond(one, other):
    """How far the first one is above the second one, 0 if it is not."""
    return difference_of(one, other) if order_of(one, other) > 0 else ZERO


def greatest_of(row):
    """The greatest one of some fractions from 0 on, 0 without any."""
    found = ZERO
    for member in row:
        if order_of(member, found) > 0:
            found = member
    return found


def needed(machine, run):
    """The greatest of all misses, 0 without steps."""
    check_run(machine, run)
    return needed_by(machine, run)


def needed_by(machine, run):
    """What `needed` tells, without checks."""
    common = bottom_of_waits(run)
    if common is None:
        return greatest_of([clock_miss(machine, run, clock) for clock in range(machine.clocks)])
    scales = {wait[1]: common // wait[1] for wait, door in run}
    waits = [wait[0] * scales[wait[1]] for wait, door in run]
    doors = doors_of(run)
    most = max([counted_miss(machine, waits, doors, clock, common) for clock in range(machine.clocks)])
    return reduced(most, common)


def bottom_of_waits(run):
    """The least common multiple of the bottoms of all waits, None if it is too long to count by."""
    common = 1
    for bottom in sorted({wait[1] for wait, door in run}):
        common = lcm(common, bottom)
        if common > MOST_COMMON:
            return None
    return common


def bounds_of_clock(machine, clock):
    """For each door (low, high, whether it puts the clock back): all that its step asks of the clock."""
    doors = machine.doors
    return [asked_at(machine, index)[clock] + (clock in doors[index][2],) for index in range(len(doors))]


def counted_miss(machine, waits, doors, clock, common):
    """The greatest miss of a clock, counted by the common bottom, as the waits are."""
    rows = [(low * common, high * common, back) for low, high, back in bounds_of_clock(machine, clock)]
    reading = 0
    most = 0
    for wait, door in zip(waits, doors):
        reading += wait
        low, high, back = rows[door]
        if reading - high > most:
            most = reading - high
        if low - reading > most:
            most = low - reading
        if back:
            reading = 0
    return most


def clock_miss(machine, run, clock):
    """The greatest miss of a clock."""
    rows = bounds_of_clock(machine, clock)
    reading = ZERO
    most = ZERO
    for wait, door in run:
        low, high, back = rows[door]
        reading = sum_of(reading, wait)
        top, bottom = reading
        # Less a whole number a fraction stays in lowest terms.
        for miss in (top - high * bottom, low * bottom - top):
            if miss * most[1] > most[0] * bottom:
                most = (miss, bottom)
        if back:
            reading = ZERO
    return most


def goes(machine, run, margin):
    """Whether the run goes within the margin."""
    check_run(machine, run)
    check_margin(margin)
    return does_go(machine, run, margin)


def does_go(machine, run, margin):
    """What `goes` tells, without checks."""
    return order_of(needed_by(machine, run), margin) <= 0


def run_fault(machine, run, margin):
    """The first bound with a miss above the margin: (index, word, clock), None if there is none."""
    check_run(machine, run)
    check_margin(margin)
    rows_of_steps = miss_rows(machine, run)
    for index in range(len(rows_of_steps)):
        for word, row in zip(WORDS, rows_of_steps[index]):
            for clock in range(machine.clocks):
                if order_of(row[clock], margin) > 0:
                    return (index, word, clock)
    return None


def mixed(machine, one, other, weight):
    """The run with the doors of both, and their waits mixed by the weight of the first one."""
    check_run(machine, one)
    check_its_run(machine, other)
    if not is_from_zero(weight) or order_of(weight, UNIT) > 0:
        raise InvalidFraction("not a fraction from 0 to 1")
    if doors_of(one) != doors_of(other):
        raise InvalidOperation("the doors of both runs are not the same")
    rest = difference_of(UNIT, weight)
    waits = [sum_of(product_of(weight, step[0]), product_of(rest, more[0])) for step, more in zip(one, other)]
    return tuple(zip(waits, doors_of(one)))


def room_behind(machine, run):
    """The room behind the last door."""
    check_run(machine, run)
    return last_room(machine, run)


def last_room(machine, run):
    """What `room_behind` tells, without checks."""
    return machine.doors[run[-1][1]][3] if run else 0


def part_of(run, many):
    """The run of the first so many steps."""
    check_steps(run)
    check_number(many, 0, len(run))
    return run[:many]

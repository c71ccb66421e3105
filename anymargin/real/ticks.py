"""Programs that look at ticks: ticking runs, their faults, and the true runs of the right ones."""
from anymargin.base.checks import GREATEST, check_number, is_ascending, is_from_to, is_number, is_row
from anymargin.base.exact import ZERO, difference_of, order_of, reduced, sum_of
from anymargin.base.fractions import is_from_zero
from anymargin.come.within import MOST_M
from anymargin.errors import InvalidOperation, InvalidRun, Refused
from anymargin.machine.machines import asked_at, check_machine
from anymargin.machine.runs import MOST_STEPS, WORDS, check_margin, do_follow, step_misses, with_zeros


def check_program(machine, own, k, most):
    """Refuses what is not a machine, its own doors, ticks and the greatest lag."""
    check_machine(machine)
    if not is_ascending(len(machine.doors), own):
        raise InvalidOperation("not an ascending tuple of doors")
    check_number(k, 1, GREATEST)
    check_margin(most)


def is_ticking(machine, own, k, most, value):
    """Whether the value is a ticking run, right or not."""
    check_program(machine, own, k, most)
    return has_ticking_form(machine, own, k, most, value)


def has_ticking_form(machine, own, k, most, value):
    """What `is_ticking` tells, without checks of the program."""
    if not isinstance(value, tuple) or len(value) > MOST_STEPS or not all([is_row(3, step) for step in value]):
        return False
    last = len(machine.doors) - 1
    for tick, lag, door in value:
        if not is_number(tick) or tick < 0 or not is_from_zero(lag) or not is_from_to(door, 0, last):
            return False
        if not is_lag(door in own, k, most, lag):
            return False
    return do_follow(machine, [door for tick, lag, door in value])


def is_lag(by_program, k, most, lag):
    """Whether a door can be so late: one of the program by at most the most, one of the world below one tick."""
    if by_program:
        return order_of(lag, most) <= 0
    return lag[0] * k < lag[1]


def check_ticking(machine, own, k, most, run):
    """Refuses what is not a program and a ticking run of it."""
    check_program(machine, own, k, most)
    if not has_ticking_form(machine, own, k, most, run):
        raise InvalidRun("not a ticking run")


def moments(machine, own, k, most, run):
    """The tuple of the moments of all doors."""
    check_ticking(machine, own, k, most, run)
    return tuple(door_moments(k, run))


def door_moments(k, run):
    """The list of the moments of all doors."""
    return [sum_of(reduced(tick, k), lag) for tick, lag, door in run]


def noticed(machine, own, k, most, run):
    """The tuple of the ticks at which the doors are noticed."""
    check_ticking(machine, own, k, most, run)
    return tuple(notice_ticks(own, run))


def notice_ticks(own, run):
    """The list of the ticks at which the doors are noticed: those of the world at the first one not before them."""
    return [tick if door in own or lag == ZERO else tick + 1 for tick, lag, door in run]


def counters(machine, own, k, most, run):
    """For each own door the tuple of all counters at its tick, None for each other one."""
    check_ticking(machine, own, k, most, run)
    rows = counter_rows(machine, own, run)
    return tuple([row if step[2] in own else None for row, step in zip(rows, run)])


def counter_rows(machine, own, run):
    """The list that has for each door how many ticks its tick is behind those that count for the clocks."""
    begins = (0,) * machine.clocks
    rows = []
    for (tick, lag, door), seen in zip(run, notice_ticks(own, run)):
        rows.append(tuple([tick - begin for begin in begins]))
        begins = begun_at(machine, door, begins, seen)
    return rows


def begun_at(machine, door, begins, now):
    """For each clock since when it counts, behind a door: since now if the door puts it back."""
    resets = machine.doors[door][2]
    return tuple([now if clock in resets else begins[clock] for clock in range(machine.clocks)])


def reading_rows(machine, times, run):
    """The list that has for each door the true readings ahead of it."""
    begins = (ZERO,) * machine.clocks
    rows = []
    for time, (tick, lag, door) in zip(times, run):
        rows.append(tuple([difference_of(time, begin) for begin in begins]))
        begins = begun_at(machine, door, begins, time)
    return rows


def ticking_fault(machine, own, k, most, run):
    """The first fault (index, word, clock) of a ticking run, None if it is right."""
    check_ticking(machine, own, k, most, run)
    return first_fault(machine, own, k, run)


def first_fault(machine, own, k, run):
    """What `ticking_fault` tells, without checks."""
    times = door_moments(k, run)
    ticks = notice_ticks(own, run)
    rows = reading_rows(machine, times, run)
    counts = counter_rows(machine, own, run)
    asked = [asked_at(machine, door) for door in range(len(machine.doors))]
    for index in range(len(run)):
        tick, lag, door = run[index]
        if index > 0 and order_of(times[index], times[index - 1]) < 0:
            return (index, "back", None)
        if index > 0 and door in own and tick < ticks[index - 1]:
            return (index, "unseen", None)
        # A counter is a reading in ticks: divided by k it is compared with the bounds themselves.
        ahead = tuple([(count, k) for count in counts[index]]) if door in own else rows[index]
        if not do_keep_asked(asked[door], ahead):
            return (index,) + first_missed(machine, door, ahead)
    return None


def do_keep_asked(asked, ahead):
    """Whether readings, pairs (top, bottom), lie from low to high for each pair (low, high) of what a door asks."""
    return all([low * bottom <= top <= high * bottom for (low, high), (top, bottom) in zip(asked, ahead)])


def first_missed(machine, door, ahead):
    """The first (word, clock) of the bounds of a door that readings ahead of it miss, None if they miss none."""
    behind = with_zeros(ahead, machine.doors[door][2])
    for word, row in zip(WORDS, step_misses(machine, door, ahead, behind)):
        for clock in range(machine.clocks):
            if row[clock] != ZERO:
                return (word, clock)
    return None


def true_run(machine, own, k, most, run):
    """The run with the doors of a right ticking run, at their moments."""
    check_ticking(machine, own, k, most, run)
    fault = first_fault(machine, own, k, run)
    if fault is not None:
        raise Refused(fault)
    times = door_moments(k, run)
    waits = [difference_of(now, ahead) for now, ahead in zip(times, [ZERO] + times)]
    return tuple(zip(waits, [door for tick, lag, door in run]))


def ticks_for(m, most):
    """The least k with which a margin of 1/m holds for programs that are at most so late, None if there is none."""
    check_number(m, 1, MOST_M)
    check_margin(most)
    left = difference_of((1, m), most)
    if left[0] <= 0:
        return None
    return -(-left[1] // left[0])

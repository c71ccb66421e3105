"""Logs of seen moments: runs that explain them within a margin, or rounds of bounds that bar each one."""
from anymargin.base.checks import is_from_to, is_row
from anymargin.base.exact import ZERO, difference_of, order_of, product_of, reduced, sum_of, total_of
from anymargin.base.fractions import is_from_zero
from anymargin.errors import InvalidFraction, InvalidLog, InvalidOperation, TooMany
from anymargin.machine.machines import check_machine
from anymargin.machine.runs import check_its_run, check_margin, do_follow, does_go, doors_of, has_run_form, moments_of
from anymargin.real.marks import chosen_times, falling_round

MOST_SEEN = 100
MOST_BOUNDS = 1000

# The words of the bounds that are not of the machine, and of those that are.
SEEN_WORDS = ("order", "low", "high")
MACHINE_WORDS = ("least", "most", "stay", "enter")


def is_log(machine, value):
    """Whether the value is a log of the machine."""
    check_machine(machine)
    return has_log_form(machine, value)


def has_log_form(machine, value):
    """What `is_log` tells, without a check of the machine."""
    if not isinstance(value, tuple) or len(value) > MOST_SEEN or not all([is_row(3, seen) for seen in value]):
        return False
    for door, low, high in value:
        if not is_from_to(door, 0, len(machine.doors) - 1) or not is_from_zero(low) or not is_from_zero(high):
            return False
        if order_of(low, high) > 0:
            return False
    return do_follow(machine, [seen[0] for seen in value])


def check_log(machine, log):
    """Refuses what is not a machine and a log of it."""
    check_machine(machine)
    if not has_log_form(machine, log):
        raise InvalidLog("not a log of the machine")


def put_back_rows(machine, log):
    """The list that has for each index, from 1 on, and each clock the last one below it that puts the clock back."""
    rows = [None, (0,) * machine.clocks]
    for i in range(1, len(log)):
        resets = machine.doors[log[i - 1][0]][2]
        rows.append(tuple([i if clock in resets else rows[i][clock] for clock in range(machine.clocks)]))
    return rows


def bounds(machine, log):
    """The tuple of all bounds of the log."""
    check_log(machine, log)
    return tuple([bound for i in range(1, len(log) + 1) for bound in bounds_at(machine, log, i)])


def bounds_at(machine, log, i):
    """The list of the bounds of the door i."""
    clocks = range(machine.clocks)
    found = [(word, i) for word in SEEN_WORDS]
    found.extend([(word, i, clock) for word in MACHINE_WORDS[:3] for clock in clocks])
    resets = machine.doors[log[i - 1][0]][2]
    return found + [("enter", i, clock) for clock in clocks if clock not in resets]


def is_bound(machine, log, value):
    """Whether the value is one of the bounds of the log."""
    if not isinstance(value, tuple) or not 2 <= len(value) <= 3 or not is_from_to(value[1], 1, len(log)):
        return False
    if len(value) == 2:
        return value[0] in SEEN_WORDS
    if value[0] not in MACHINE_WORDS or not is_from_to(value[2], 0, machine.clocks - 1):
        return False
    return value[0] != "enter" or value[2] not in machine.doors[log[value[1] - 1][0]][2]


def bound_told(machine, log, bound):
    """What a bound says: (x, y, w, whether it is of the machine)."""
    check_log(machine, log)
    if not is_bound(machine, log, bound):
        raise InvalidOperation("not a bound of the log")
    return told_by(machine, log, put_back_rows(machine, log), bound)


def told_by(machine, log, rows, bound):
    """What `bound_told` tells, without checks; `rows` tell of the clocks that are put back."""
    i = bound[1]
    door, low, high = log[i - 1]
    if bound[0] == "order":
        return (i - 1, i, ZERO, False)
    if bound[0] == "low":
        return (0, i, (-low[0], low[1]), False)
    if bound[0] == "high":
        return (i, 0, high, False)
    clock = bound[2]
    begin = rows[i][clock]
    room, guards, resets, goal = machine.doors[door]
    if bound[0] == "least":
        return (begin, i, (-guards[clock][0], 1), True)
    numbers = {"most": guards[clock][1], "stay": machine.limits[room][clock], "enter": machine.limits[goal][clock]}
    return (i, begin, (numbers[bound[0]], 1), True)


def told_bounds(machine, log):
    """The list of all pairs (bound, what it says)."""
    rows = put_back_rows(machine, log)
    found = [bound for i in range(1, len(log) + 1) for bound in bounds_at(machine, log, i)]
    return [(bound, told_by(machine, log, rows, bound)) for bound in found]


def explains(machine, log, margin, value):
    """Whether the value is a run that explains the log within the margin."""
    check_log(machine, log)
    check_margin(margin)
    return does_explain(machine, log, margin, value)


def does_explain(machine, log, margin, value):
    """What `explains` tells, without checks of the log and the margin."""
    if not has_run_form(machine, value) or doors_of(value) != tuple([seen[0] for seen in log]):
        return False
    for (door, low, high), time in zip(log, moments_of(value)):
        if order_of(low, time) > 0 or order_of(time, high) > 0:
            return False
    return does_go(machine, value, margin)


def round_sums(machine, log, value):
    """The pair (sum at 0, how many bounds are of the machine) of a round of bounds, None if the value is none."""
    if not isinstance(value, tuple) or not 1 <= len(value) <= MOST_BOUNDS:
        return None
    if not all([is_bound(machine, log, bound) for bound in value]):
        return None
    rows = put_back_rows(machine, log)
    told = [told_by(machine, log, rows, bound) for bound in value]
    if any([row[1] != further[0] for row, further in zip(told, told[1:] + told[:1])]):
        return None
    return (total_of([row[2] for row in told]), len([row for row in told if row[3]]))


def sum_at(sums, margin):
    """The sum of a round at a margin."""
    return sum_of(sums[0], product_of((sums[1], 1), margin))


def is_barring(machine, log, margin, value):
    """Whether the value is a round of bounds whose sum at the margin is below 0."""
    check_log(machine, log)
    check_margin(margin)
    return does_bar_log(machine, log, margin, value)


def does_bar_log(machine, log, margin, value):
    """What `is_barring` tells, without checks of the log and the margin."""
    sums = round_sums(machine, log, value)
    return sums is not None and sum_at(sums, margin)[0] < 0


def at_margin(told, margin):
    """The list of (bound, x, y, the number of the bound at the margin) for pairs of `told_bounds`."""
    return [(bound, x, y, sum_of(w, margin) if machines else w) for bound, (x, y, w, machines) in told]


def explain_answer(machine, log, margin):
    """("run", run) with a run that explains the log within the margin, or ("barred", round)."""
    check_log(machine, log)
    check_margin(margin)
    rows = at_margin(told_bounds(machine, log), margin)
    found = falling_round(len(log), rows)
    if found is not None:
        return ("barred", found)
    return ("run", run_at(log, rows))


def run_at(log, rows):
    """A run whose moments keep the bounds of rows as `at_margin` tells them: none of their rounds falls."""
    times = chosen_times(len(log), rows)
    waits = [difference_of(now, ahead) for ahead, now in zip(times, times[1:])]
    return tuple([(wait, seen[0]) for wait, seen in zip(waits, log)])


def least_explaining(machine, log):
    """("never", round), or ("least", margin, run, round)."""
    check_log(machine, log)
    told = told_bounds(machine, log)
    seen = [row for row in told if not row[1][3]]
    found = falling_round(len(log), at_margin(seen, ZERO))
    if found is not None:
        return ("never", found)
    margin = ZERO
    barring = None
    found = falling_round(len(log), at_margin(told, margin))
    while found is not None:
        barring = found
        # The least margin at which this round does not fall: each further one asks for more.
        sums = round_sums(machine, log, barring)
        margin = reduced(-sums[0][0], sums[0][1] * sums[1])
        found = falling_round(len(log), at_margin(told, margin))
    return ("least", margin, run_at(log, at_margin(told, margin)), barring)


def is_least_explaining(machine, log, value):
    """Whether the value is any right answer: a round that bars each margin, or the least margin with its papers."""
    check_log(machine, log)
    if is_row(2, value):
        sums = round_sums(machine, log, value[1])
        return value[0] == "never" and sums is not None and sums[1] == 0 and sums[0][0] < 0
    if not is_row(4, value) or value[0] != "least" or not is_from_zero(value[1]):
        return False
    margin, run, around = value[1:]
    if not does_explain(machine, log, margin, run):
        return False
    if margin == ZERO:
        return around is None
    sums = round_sums(machine, log, around)
    return sums is not None and sums[1] > 0 and sum_at(sums, margin) == ZERO


def log_of(machine, run, slack):
    """The log of a run: each moment, from so much ahead to so much behind."""
    check_machine(machine)
    check_its_run(machine, run)
    if not is_from_zero(slack):
        raise InvalidFraction("not a fraction from 0 on")
    if len(run) > MOST_SEEN:
        raise TooMany(MOST_SEEN)
    found = []
    for time, door in zip(moments_of(run), doors_of(run)):
        low = difference_of(time, slack)
        found.append((door, low if low[0] > 0 else ZERO, sum_of(time, slack)))
    return tuple(found)

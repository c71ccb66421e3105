"""Machines whose clocks run apart: drift runs, their true runs, and which runs are true ones."""
from anymargin.base.checks import is_from_to, is_row
from anymargin.base.exact import UNIT, ZERO, difference_of, order_of, product_of, reduced, sum_of
from anymargin.base.fractions import are_fractions, is_fraction, simplest_between
from anymargin.errors import InvalidFraction, InvalidRun
from anymargin.machine.machines import asked_at, check_machine
from anymargin.machine.runs import MOST_STEPS, check_its_run, check_margin, has_run_form, moments_of, with_zeros


def is_rate(value):
    """Whether the value is a rate: a fraction from 0 on, below 1."""
    return is_fraction(value) and 0 <= value[0] < value[1]


def check_rate(rate):
    """Refuses a value that is no rate."""
    if not is_rate(rate):
        raise InvalidFraction("not a fraction from 0 on, below 1")


def margin_for(rate):
    """The margin within which true runs at the rate go."""
    check_rate(rate)
    return reduced(4 * rate[0], rate[1] - rate[0])


def rate_for(margin):
    """The rate with the margin."""
    check_margin(margin)
    return reduced(margin[0], 4 * margin[1] + margin[0])


def slower(rate):
    """How far the slowest clock goes on in the time 1."""
    return difference_of(UNIT, rate)


def faster(rate):
    """How far the fastest clock goes on in the time 1."""
    return sum_of(UNIT, rate)


def is_between(low, one, high):
    """Whether the fraction lies from low to high."""
    return order_of(low, one) <= 0 and order_of(one, high) <= 0


def is_drift_run(machine, rate, value):
    """Whether the value is a drift run at the rate."""
    check_machine(machine)
    check_rate(rate)
    return does_drift(machine, rate, value)


def does_drift(machine, rate, value):
    """What `is_drift_run` tells, without checks of the machine and the rate."""
    if not has_drift_form(machine, value):
        return False
    for wait, steps, door in value:
        low, high = product_of(slower(rate), wait), product_of(faster(rate), wait)
        if not all([is_between(low, step, high) for step in steps]):
            return False
    return all([does_keep_asked(machine, step[2], ahead) for step, ahead in zip(value, readings_ahead(machine, value))])


def has_drift_form(machine, value):
    """Whether the value is a tuple of triples (wait, steps, door) of a run, with a fraction for each clock."""
    if not isinstance(value, tuple) or len(value) > MOST_STEPS or not all([is_row(3, step) for step in value]):
        return False
    if not all([is_row(machine.clocks, step[1]) and are_fractions(step[1]) for step in value]):
        return False
    return has_run_form(machine, run_of(value))


def run_of(drift):
    """The run with the waits and the doors."""
    return tuple([(wait, door) for wait, steps, door in drift])


def does_keep_asked(machine, door, ahead):
    """Whether own readings ahead of a door keep all bounds of its step exactly."""
    asked = asked_at(machine, door)
    return all([is_between((low, 1), reading, (high, 1)) for reading, (low, high) in zip(ahead, asked)])


def readings_ahead(machine, drift):
    """The list of the own readings ahead of each door."""
    behind = own_rows(machine, drift)
    return [moved_on(readings, steps) for readings, (wait, steps, door) in zip(behind, drift)]


def moved_on(readings, steps):
    """The own readings after each clock went on."""
    return tuple([sum_of(reading, step) for reading, step in zip(readings, steps)])


def own_rows(machine, drift):
    """The list of the own readings at the beginning and behind each door."""
    rows = [(ZERO,) * machine.clocks]
    for wait, steps, door in drift:
        rows.append(with_zeros(moved_on(rows[-1], steps), machine.doors[door][2]))
    return rows


def check_drift(machine, rate, drift):
    """Refuses what is not a machine, a rate and a drift run at it."""
    check_machine(machine)
    check_rate(rate)
    if not does_drift(machine, rate, drift):
        raise InvalidRun("not a drift run at the rate")


def true_run(machine, rate, drift):
    """The true run of a drift run."""
    check_drift(machine, rate, drift)
    return run_of(drift)


def own_readings(machine, rate, drift):
    """The tuple of the own readings at the beginning and behind each door."""
    check_drift(machine, rate, drift)
    return tuple(own_rows(machine, drift))


def held_rows(machine, run, clock):
    """The list that has for each time from one putting back of a clock to the next one the list of its moments.

    Each moment is told by (index, time, least own reading, greatest own reading); the first one is the putting back.
    """
    asked = [asked_at(machine, door)[clock] for door in range(len(machine.doors))]
    times = (ZERO,) + moments_of(run)
    found = [[(0, ZERO, 0, 0)]]
    for index in range(1, len(times)):
        door = run[index - 1][1]
        found[-1].append((index, times[index]) + asked[door])
        if clock in machine.doors[door][2]:
            found.append([(index, times[index], 0, 0)])
    return found


def does_bar(word, rate, ahead, now):
    """Whether a bound of the moment of now bars the run, as the clock stood at the one ahead."""
    time = difference_of(now[1], ahead[1])
    if word == "low":
        return order_of(sum_of((ahead[3], 1), product_of(faster(rate), time)), (now[2], 1)) < 0
    return order_of(sum_of((ahead[2], 1), product_of(slower(rate), time)), (now[3], 1)) > 0


def drift_answer(machine, run, rate):
    """("drift", drift run) with one whose true run it is, or ("barred", word, clock, i, j)."""
    check_machine(machine)
    check_its_run(machine, run)
    check_rate(rate)
    columns = []
    for clock in range(machine.clocks):
        column = []
        for rows in held_rows(machine, run, clock):
            stretches = stretches_of(rate, rows)
            if len(stretches) < len(rows):
                return ("barred",) + first_bar(rate, clock, rows[:len(stretches) + 1])
            column.extend(steps_within(rate, rows, stretches))
        columns.append(column)
    steps = [tuple([column[index] for column in columns]) for index in range(len(run))]
    return ("drift", tuple([(wait, more, door) for (wait, door), more in zip(run, steps)]))


def stretches_of(rate, rows):
    """The list of the stretches (low, high) of the own readings at the moments, up to the first one without any."""
    found = [(ZERO, ZERO)]
    for ahead, now in zip(rows, rows[1:]):
        time = difference_of(now[1], ahead[1])
        low = sum_of(found[-1][0], product_of(slower(rate), time))
        high = sum_of(found[-1][1], product_of(faster(rate), time))
        low, high = greater_of(low, (now[2], 1)), lesser_of(high, (now[3], 1))
        if order_of(low, high) > 0:
            break
        found.append((low, high))
    return found


def greater_of(one, other):
    """The greater one of two fractions."""
    return one if order_of(one, other) > 0 else other


def lesser_of(one, other):
    """The lesser one of two fractions."""
    return one if order_of(one, other) < 0 else other


def first_bar(rate, clock, rows):
    """The first (word, clock, i, j) that bars the run at the last one of these moments."""
    now = rows[-1]
    bars = [(word, clock, ahead[0], now[0]) for ahead in rows for word in ("low", "high")
            if does_bar(word, rate, ahead, now)]
    return bars[0]


def steps_within(rate, rows, stretches):
    """The list of how far the clock goes on from moment to moment: own readings are chosen backwards."""
    now = simplest_between(stretches[-1][0], stretches[-1][1])
    steps = []
    for at in range(len(rows) - 2, -1, -1):
        time = difference_of(rows[at + 1][1], rows[at][1])
        low = greater_of(stretches[at][0], difference_of(now, product_of(faster(rate), time)))
        high = lesser_of(stretches[at][1], difference_of(now, product_of(slower(rate), time)))
        ahead = simplest_between(low, high)
        steps.append(difference_of(now, ahead))
        now = ahead
    return steps[::-1]


def is_drift_answer(machine, run, rate, value):
    """Whether the value is any right answer: a drift run whose true run it is, or a bound that bars it."""
    check_machine(machine)
    check_its_run(machine, run)
    check_rate(rate)
    if is_row(2, value):
        return value[0] == "drift" and does_drift(machine, rate, value[1]) and run_of(value[1]) == run
    return is_row(5, value) and value[0] == "barred" and is_bar(machine, run, rate, value[1:])


def is_bar(machine, run, rate, value):
    """Whether the value is any (word, clock, i, j) that bars the run."""
    word, clock, i, j = value
    if word not in ("low", "high") or not is_from_to(clock, 0, machine.clocks - 1):
        return False
    if not is_from_to(j, 1, len(run)) or not is_from_to(i, 0, j):
        return False
    for rows in held_rows(machine, run, clock):
        # A moment of putting back ends one row and begins the next one: j is one of the further ones of its row.
        if rows[0][0] <= i and j <= rows[-1][0] and rows[0][0] < j:
            return does_bar(word, rate, rows[i - rows[0][0]], rows[j - rows[0][0]])
    return False


def least_rate(machine, run):
    """The least rate at which the run is a true run, None if there is none."""
    check_machine(machine)
    check_its_run(machine, run)
    found = ZERO
    for clock in range(machine.clocks):
        for rows in held_rows(machine, run, clock):
            for asked in asked_rates(rows):
                if asked is None or order_of(asked, UNIT) >= 0:
                    return None
                found = greater_of(asked, found)
    return found


def asked_rates(rows):
    """The list of the rates that moments ask for, None for more than each rate.

    Of the moments ahead with the same greatest reading the last one asks for most, of those with the same least
    reading the first one.
    """
    lasts = {}
    firsts = {}
    found = []
    for row in rows:
        lasts[row[3]] = row
        firsts.setdefault(row[2], row)
        if row[0] > rows[0][0]:
            found.extend([rate_at_low(ahead, row) for ahead in lasts.values()])
            found.extend([rate_at_high(ahead, row) for ahead in firsts.values()])
    return found


def rate_at_low(ahead, now):
    """The least rate at which the greatest reading ahead comes up to the low bound of now, None if there is none."""
    lacking = now[2] - ahead[3]
    time = difference_of(now[1], ahead[1])
    if lacking <= 0:
        return ZERO
    if time == ZERO:
        return None
    return difference_of(reduced(lacking * time[1], time[0]), UNIT)


def rate_at_high(ahead, now):
    """The least rate at which the least reading ahead stays within the high bound of now, None if there is none."""
    left = now[3] - ahead[2]
    time = difference_of(now[1], ahead[1])
    if left < 0:
        return None
    if time == ZERO:
        return ZERO
    return difference_of(UNIT, reduced(left * time[1], time[0]))

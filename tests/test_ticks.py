"""Stage 15: programs that look at ticks, against counters and readings that are found door by door."""
import random
from fractions import Fraction
from math import ceil

from anymargin import errors
from anymargin.errors import InvalidFraction, InvalidMachine, InvalidNumber, InvalidOperation, InvalidRun, Refused
from anymargin.machine.machines import Machine
from anymargin.machine.runs import goes, is_run, needed
from anymargin.real import ticks as module
from anymargin.real.ticks import counters, is_ticking, moments, noticed, ticking_fault, ticks_for, true_run
from tests.support import (
    EVERYTHING, HOLDS, LONG, MOST, NO_FRACTIONS, NO_INTEGERS, NO_TUPLES, Case, pair, random_machine)
from tests.test_runs import NO_MACHINES

EXAMPLES = """
>>> M = Machine(1, ((2,), (1,)), ((0, ((1, 2),), (0,), 1), (1, ((0, 1),), (), 0)))
>>> R = ((2, (1, 4), 0), (3, (1, 3), 1))
>>> [moments(M, (0,), 2, (1, 4), R), noticed(M, (0,), 2, (1, 4), R), counters(M, (0,), 2, (1, 4), R), true_run(M, (0,), 2, (1, 4), R)]
[((5, 4), (11, 6)), (2, 4), ((2,), None), (((5, 4), 0), ((7, 12), 1))]
>>> [ticking_fault(M, (0,), 2, (1, 4), ((1, (0, 1), 0),)), is_ticking(M, (), 2, (1, 4), ((1, (1, 2), 0),)), ticks_for(4, (1, 8)), ticks_for(4, (1, 4))]
[(0, 'low', 0), False, 8, None]
"""

M = Machine(1, ((2,), (1,)), ((0, ((1, 2),), (0,), 1), (1, ((0, 1),), (), 0)))
R = ((2, (1, 4), 0), (3, (1, 3), 1))
GIVEN = (M, (0,), 2, (1, 4))
LOOP = Machine(2, ((4, 4),), ((0, ((0, 4), (0, 4)), (0,), 0), (0, ((0, 4), (0, 4)), (1,), 0)))

# Members that are no step of M with its door 0 own, twice a unit of time, a quarter late at most.
NO_STEPS = NO_TUPLES + (
    (), (2, (1, 4)), (2, (1, 4), 0, 0), [2, (1, 4), 0], (-1, (0, 1), 0), (LONG, (0, 1), 0), (True, (0, 1), 0),
    (2, (-1, 4), 0), (2, (1, 3), 0), (2, (1, 4), 1), (2, (1, 4), True), (2, (1, 4), False), (2, (1, 4), None),
    (2, (1, 4), 2), (2, (1, 4), -1), ((2, 1), (1, 4), 0), ((1, 4), 2, 0)) + tuple(
    [(2, lag, 0) for lag in NO_FRACTIONS]) + tuple([(tick, (0, 1), 0) for tick in NO_INTEGERS])
NO_RUNS = NO_TUPLES + tuple([(step,) for step in NO_STEPS]) + (
    R[1:], R + R[1:], R[:1] * 2, list(R), (R,), ((2, (1, 4), 0), (3, (1, 2), 1)), ((0, (0, 1), 0), (0, (0, 1), 1)) * 10001)


def random_ticking(chosen, machine, own, k, most, many):
    """A ticking run whose ticks grow nearly always, and by just what a door asks for quite often."""
    room, tick, steps = 0, 0, []
    for _ in range(many):
        doors = machine.doors_from(room)
        if not doors:
            break
        door = chosen.choice(doors)
        tick = max(0, tick + chosen.choice((0, 0, 1, 1, k, k, 2 * k, k - 1, k + 1, -1)))
        if door in own:
            lag = most * Fraction(chosen.choice((0, 0, 1, 1, 2, 4)), 4)
        else:
            lag = Fraction(chosen.choice((0, 0, 1, 2, 3)), 4 * k)
        steps.append((tick, pair(lag), door))
        room = machine.doors[door][3]
    return tuple(steps)


def cases(seed, many):
    chosen = random.Random(seed)
    found = [GIVEN + (R,), GIVEN + ((),), (M, (), 1, (0, 1), ()), (HOLDS, (), 3, (0, 1), ())]
    while len(found) < many:
        machine = random_machine(chosen, chosen.choice((1, 2, 3)), chosen.choice((1, 2, 3)), chosen.choice((2, 4, 9)))
        # Wide bounds let more of a run be right.
        doors = [(room, tuple([(low if chosen.randrange(4) == 0 else 0, max(high, 2)) for low, high in guards]), resets, goal)
                 for room, guards, resets, goal in machine.doors]
        limits = [tuple([max(limit, chosen.choice((1, 2, 3))) for limit in row]) for row in machine.limits]
        machine = Machine(machine.clocks, tuple(limits), tuple(doors))
        own = tuple([door for door in range(len(machine.doors)) if chosen.randrange(2)])
        k, most = chosen.choice((1, 2, 3, 5)), chosen.choice((Fraction(0), Fraction(1, 3), Fraction(1, 2), Fraction(2)))
        run = random_ticking(chosen, machine, own, k, most, chosen.randrange(7))
        found.append((machine, own, k, pair(most), run))
    return found


CASES = cases(150, 700)


def model(machine, own, k, most, run):
    """The moments, noticed ticks and counters, and all faults of all doors in their sequence."""
    times, seen, counts, faults = [], [], [], []
    since, began = [0] * machine.clocks, [Fraction(0)] * machine.clocks
    for index, (tick, lag, door) in enumerate(run):
        room, guards, resets, goal = machine.doors[door]
        time = Fraction(tick, k) + Fraction(*lag)
        notice = tick if door in own else ceil(time * k)
        clocks = range(machine.clocks)
        if door in own:
            counts.append(tuple([tick - since[clock] for clock in clocks]))
            readings, by = [tick - since[clock] for clock in clocks], k
        else:
            counts.append(None)
            readings, by = [time - began[clock] for clock in clocks], 1
        if times and time < times[-1]:
            faults.append((index, "back", None))
        if door in own and seen and tick < seen[-1]:
            faults.append((index, "unseen", None))
        behind = [0 if clock in resets else readings[clock] for clock in clocks]
        faults += [(index, "stay", clock) for clock in clocks if readings[clock] > by * machine.limits[room][clock]]
        faults += [(index, "low", clock) for clock in clocks if readings[clock] < by * guards[clock][0]]
        faults += [(index, "high", clock) for clock in clocks if readings[clock] > by * guards[clock][1]]
        faults += [(index, "enter", clock) for clock in clocks if behind[clock] > by * machine.limits[goal][clock]]
        times.append(time)
        seen.append(notice)
        for clock in resets:
            since[clock], began[clock] = notice, time
    return times, seen, counts, faults


class Ticks(Case):
    def test_examples(self):
        self.examples(EXAMPLES, dict(vars(module), Machine=Machine), vars(errors))

    def test_moments_ticks_and_counters(self):
        below = 0
        for given in CASES:
            times, seen, counts, faults = model(*given)
            self.same(is_ticking(*given), True)
            self.same(moments(*given), tuple([pair(time) for time in times]))
            self.same(noticed(*given), tuple(seen))
            self.same(counters(*given), tuple(counts))
            below += min([0] + [count for row in counts if row for count in row]) < 0
        self.assertGreater(below, 5)

    def test_faults_and_true_runs(self):
        words = {}
        for given in CASES:
            machine, own, k, most, run = given
            times, seen, counts, faults = model(*given)
            fault = faults[0] if faults else None
            self.same(ticking_fault(*given), fault)
            words.setdefault(fault and fault[1], []).append(given)
            if fault is not None:
                self.refused(Refused, true_run, *given, reason=fault)
                continue
            found = true_run(*given)
            waits = [now - ahead for now, ahead in zip(times, [Fraction(0)] + times)]
            self.same(found, tuple([(pair(wait), step[2]) for wait, step in zip(waits, run)]))
            self.same(is_run(machine, found), True)
            self.same(goes(machine, found, pair(Fraction(1, k) + Fraction(*most))), True)
        self.assertEqual({word for word in words if len(words[word]) > 2},
                         {None, "back", "unseen", "stay", "low", "high", "enter"})

    def test_the_first_fault_is_told(self):
        """Of one door the first word counts, of several clocks the least; of several doors the first one."""
        machine = Machine(2, ((1, 1), (0, 0)), ((0, ((2, 2), (2, 2)), (), 1), (1, ((3, 4), (0, 0)), (), 0)))
        both = lambda first, more: ticking_fault(machine, (0, 1), 2, (1, 1), ((first, (0, 1), 0),) + more)
        self.same([both(5, ()), both(3, ()), both(0, ()), both(2, ())],
                  [(0, "stay", 0), (0, "stay", 0), (0, "low", 0), (0, "low", 0)])
        wide = Machine(2, ((4, 3), (4, 1)), ((0, ((0, 4), (0, 3)), (0,), 1), (1, ((1, 4), (0, 4)), (0, 1), 1)))
        row = lambda *steps: ticking_fault(wide, (0,), 1, (0, 1), steps)
        self.same(row((2, (0, 1), 0)), (0, "enter", 1))
        self.same(row((4, (0, 1), 0)), (0, "stay", 1))
        self.same(row((1, (0, 1), 0), (0, (1, 2), 1)), (1, "back", None))
        self.same(row((1, (0, 1), 0), (1, (1, 2), 1)), (1, "stay", 1))
        self.same(row((0, (0, 1), 0), (0, (1, 2), 1)), (1, "low", 0))
        self.same(row((0, (0, 1), 0), (1, (0, 1), 1)), None)

    def test_back_counts_ahead_of_unseen(self):
        machine = Machine(1, ((4,),), ((0, ((0, 4),), (), 0),) * 2)
        call = lambda *steps: ticking_fault(machine, (0,), 2, (1, 1), steps)
        # Seen at the tick 3, though done ahead of it: the program cannot have gone for its own door at 2.
        self.same(call((2, (1, 4), 1), (2, (1, 4), 0)), (1, "unseen", None))
        self.same(call((2, (1, 4), 1), (2, (1, 8), 0)), (1, "back", None))
        self.same(call((2, (0, 1), 1), (2, (0, 1), 0)), None)
        self.same(call((2, (1, 4), 1), (3, (0, 1), 0)), None)
        # The world needs not to have seen what a program did late, but cannot be ahead of it.
        self.same(call((2, (1, 1), 0), (3, (1, 4), 1)), (1, "back", None))
        self.same(call((2, (1, 1), 0), (4, (0, 1), 1)), None)
        self.same(call((2, (1, 1), 0), (2, (1, 1), 0)), None)

    def test_equality_keeps_each_bound(self):
        machine = Machine(1, ((2,), (2,)), ((0, ((2, 2),), (), 1), (1, ((0, 2),), (0,), 0)))
        for own in ((), (0,), (0, 1)):
            self.same(ticking_fault(machine, own, 3, (0, 1), ((6, (0, 1), 0), (6, (0, 1), 1), (12, (0, 1), 0))), None)
            self.same(ticking_fault(machine, own, 3, (0, 1), ((5, (0, 1), 0),)), (0, "low", 0))
            self.same(ticking_fault(machine, own, 3, (0, 1), ((7, (0, 1), 0),)), (0, "stay", 0))
        # By its counter the program comes at once, however late it does so; the world misses what it misses.
        self.same(ticking_fault(machine, (0,), 3, (9, 1), ((6, (9, 1), 0),)), None)
        self.same(ticking_fault(machine, (), 3, (9, 1), ((6, (1, 9), 0),)), (0, "stay", 0))

    def test_margins_that_are_nearly_needed(self):
        """A door of the world just behind a tick, and a lag: the margin is nearly 1/k and the lag."""
        machine = Machine(1, ((4,), (4,)), ((0, ((0, 4),), (0,), 1), (1, ((2, 2),), (0,), 0)))
        for k in (1, 2, 5):
            for most in (Fraction(0), Fraction(1, 7), Fraction(3)):
                tiny = Fraction(1, 1000 * k)
                run = ((0, pair(tiny), 0), (1 + 2 * k, pair(most), 1))
                found = needed(machine, true_run(machine, (1,), k, pair(most), run))
                self.same(found, pair(Fraction(1, k) + most - tiny))

    def test_without_lags(self):
        """Doors of a program alone, without lags, are exact; after doors of the world they need not be."""
        for machine, own, k, most, run in CASES:
            every = tuple(range(len(machine.doors)))
            exact = tuple([(tick, (0, 1), door) for tick, lag, door in run])
            if ticking_fault(machine, every, k, (0, 1), exact) is None:
                self.same(needed(machine, true_run(machine, every, k, (0, 1), exact)), (0, 1))
        machine = Machine(1, ((4,), (4,)), ((0, ((0, 4),), (0,), 1), (1, ((1, 1),), (0,), 0)))
        run = ((0, (1, 2), 0), (2, (0, 1), 1))
        self.same(needed(machine, true_run(machine, (1,), 1, (0, 1), run)), (1, 2))

    def test_as_many_steps_as_are_let(self):
        steps = ((0, (0, 1), 0),) * 20000
        self.same([is_ticking(LOOP, (0,), 1, (0, 1), steps + more) for more in ((), steps[:1])], [True, False])
        self.same(len(true_run(LOOP, (0,), 1, (0, 1), steps)), 20000)

    def test_judged_values(self):
        right = [(), R, R[:1], ((0, (0, 1), 0),), ((2, (1, 4), 0), (3, (MOST // 2, MOST), 1)), ((MOST, (0, 1), 0),),
                 ((5, (0, 1), 0), (3, (0, 1), 1), (0, (1, 5), 0))]
        self.judged(lambda value: is_ticking(*GIVEN, value), right, NO_RUNS)
        # Lags of 0, and of just what is let.
        for lag, wanted in (((0, 1), (True, True)), ((1, 4), (True, True)), ((1, 3), (False, True)), ((1, 2), (False, False))):
            found = (is_ticking(*GIVEN, ((2, lag, 0),)), is_ticking(*GIVEN, ((2, (0, 1), 0), (2, lag, 1))))
            self.same(found, wanted)
        self.same([is_ticking(M, (0,), 1, (7, 1), ((2, lag, 0),)) for lag in ((7, 1), (8, 1))], [True, False])

    def test_wrong_arguments(self):
        calls = (is_ticking, moments, noticed, counters, ticking_fault, true_run)
        for call in calls:
            self.all_refused(InvalidMachine, lambda machine: call(machine, 0, 0, 0, 0), NO_MACHINES)
            wrong = NO_TUPLES + ((True,), (0, 0), (1, 0), (2,), (-1,), ("0",), ((0,),), (None,), (0, 1, 2))
            self.all_refused(InvalidOperation, lambda own: call(M, own, 0, 0, 0), wrong)
            self.all_refused(InvalidNumber, lambda k: call(M, (0,), k, 0, 0), NO_INTEGERS + (0, -1), "given")
            self.all_refused(InvalidFraction, lambda most: call(M, (0,), MOST, most, 0), NO_FRACTIONS + ((-1, 2),))
        for call in calls[1:]:
            self.all_refused(InvalidRun, lambda run: call(*GIVEN, run), NO_RUNS)
        for value in EVERYTHING:
            self.assertIn(is_ticking(*GIVEN, value), (True, False))

    def test_wrong_runs_are_told_ahead_of_faults(self):
        late = ((0, (0, 1), 0), (0, (1, 2), 1))
        self.refused(InvalidRun, true_run, *GIVEN, late)
        self.refused(Refused, true_run, *GIVEN, late[:1], reason=(0, "low", 0))


class Enough(Case):
    def test_ticks_that_are_enough(self):
        for m in (1, 2, 5, 64):
            for most in [Fraction(0)] + [Fraction(a, b) for b in (1, 3, 64, 65, 200) for a in (1, 2, 7)]:
                found = ticks_for(m, pair(most))
                if most >= Fraction(1, m):
                    self.same(found, None)
                    continue
                fits = lambda k: Fraction(1, k) + most <= Fraction(1, m)
                self.same((isinstance(found, int), fits(found), found == 1 or not fits(found - 1)), (True, True, True))
        self.same([ticks_for(m, (0, 1)) for m in range(1, 65)], list(range(1, 65)))
        self.same(ticks_for(1, (MOST - 1, MOST)), MOST)

    def test_wrong_arguments(self):
        self.all_refused(InvalidNumber, lambda m: ticks_for(m, 0), NO_INTEGERS + (0, 65, -1), "given")
        self.all_refused(InvalidFraction, lambda most: ticks_for(1, most), NO_FRACTIONS + ((-1, 2),))

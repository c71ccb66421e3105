"""Stage 14: clocks that run apart, against all bounds of all pairs of moments, and readings that are added up."""
import random
from fractions import Fraction

from anymargin import errors
from anymargin.errors import InvalidFraction, InvalidMachine, InvalidRun
from anymargin.machine.machines import Machine
from anymargin.machine.runs import goes, is_run, needed
from anymargin.real import drift as module
from anymargin.real.drift import (
    drift_answer, is_drift_answer, is_drift_run, is_rate, least_rate, margin_for, own_readings, rate_for, true_run)
from tests.support import (
    EVERYTHING, HOLDS, LONG, MOST, NO_FRACTIONS, NO_INTEGERS, NO_TUPLES, Case, pair, random_machine, random_run, told)
from tests.test_runs import LOOP, NO_MACHINES, NO_RUNS

EXAMPLES = """
>>> ONE = Machine(1, ((4,), (4,)), ((0, ((4, 4),), (0,), 1),))
>>> D = (((5, 1), ((4, 1),), 0),)
>>> [is_drift_run(ONE, (1, 5), D), is_drift_run(ONE, (1, 6), D), true_run(ONE, (1, 5), D), needed(ONE, true_run(ONE, (1, 5), D)), margin_for((1, 5))]
[True, False, (((5, 1), 0),), (1, 1), (1, 1)]
>>> [rate_for((1, 1)), rate_for((1, 3)), least_rate(ONE, (((5, 1), 0),)), least_rate(ONE, (((3, 1), 0),)), least_rate(ONE, (((0, 1), 0),))]
[(1, 5), (1, 13), (1, 5), (1, 3), None]
>>> is_drift_answer(ONE, (((3, 1), 0),), (1, 3), ("drift", (((3, 1), ((4, 1),), 0),)))
True
>>> TWO = Machine(1, ((4,),) * 3, ((0, ((1, 1),), (), 1), (1, ((3, 3),), (), 2)))
>>> [least_rate(TWO, (((1, 1), 0), ((3, 2), 1))), drift_answer(TWO, (((1, 1), 0), ((3, 2), 1)), (1, 4))]
[(1, 3), ('barred', 'low', 0, 1, 2)]
>>> true_run(ONE, (1, 6), D)
raises InvalidRun
"""

ONE = Machine(1, ((4,), (4,)), ((0, ((4, 4),), (0,), 1),))
TWO = Machine(1, ((4,),) * 3, ((0, ((1, 1),), (), 1), (1, ((3, 3),), (), 2)))
D = (((5, 1), ((4, 1),), 0),)
NO_RATES = NO_FRACTIONS + ((1, 1), (-1, 2), (3, 2), (MOST, 1), (-1, MOST), (2, 1))
RATES = [Fraction(0), Fraction(1, 13), Fraction(1, 5), Fraction(1, 3), Fraction(1, 2), Fraction(9, 10)]


def cases(seed, many, most=6):
    """Machines with runs that keep most bounds nearly."""
    chosen = random.Random(seed)
    found = []
    while len(found) < many:
        machine = random_machine(chosen, chosen.choice((1, 2, 3)), chosen.choice((1, 2)), chosen.choice((2, 4, 8)))
        wide = [(room, tuple([(low if chosen.randrange(3) == 0 else 0, max(high, 2)) for low, high in guards]), resets, goal)
                for room, guards, resets, goal in machine.doors]
        machine = Machine(machine.clocks, tuple([tuple([max(limit, 2) for limit in row]) for row in machine.limits]),
                          tuple(wide))
        run = tuple([(pair(Fraction(*wait) / 2), door) for wait, door in random_run(chosen, machine, most)])
        found.append((machine, run))
    return found


CASES = cases(140, 250) + [(ONE, (((5, 1), 0),)), (TWO, (((1, 1), 0), ((3, 2), 1))), (HOLDS, ()), (ONE, ())]


def times(run):
    found = [Fraction(0)]
    for wait, door in run:
        found.append(found[-1] + Fraction(*wait))
    return found


def bounds_at(machine, run, clock, moment):
    """The pair (low, high) of what the bounds of the step of a moment leave the clock."""
    room, guards, resets, goal = machine.doors[run[moment - 1][1]]
    highs = [machine.limits[room][clock], guards[clock][1]]
    return guards[clock][0], min(highs if clock in resets else highs + [machine.limits[goal][clock]])


def pairs_of(machine, run):
    """All (clock, i, j) with the time between, the least and greatest reading at i, the low and high of j."""
    time, found = times(run), []
    for clock in range(machine.clocks):
        for j in range(1, len(run) + 1):
            low, high = bounds_at(machine, run, clock, j)
            backs = [i for i in range(1, j) if clock in machine.doors[run[i - 1][1]][2]]
            s = backs[-1] if backs else 0
            for i in range(s, j + 1):
                least, greatest = (0, 0) if i == s else bounds_at(machine, run, clock, i)
                found.append((clock, i, j, time[j] - time[i], least, greatest, low, high))
    return found


def bars(machine, run, rate):
    """All ("barred", word, clock, i, j) of the run at the rate."""
    found = []
    for clock, i, j, t, least, greatest, low, high in pairs_of(machine, run):
        if greatest + (1 + rate) * t < low:
            found.append(("barred", "low", clock, i, j))
        if least + (1 - rate) * t > high:
            found.append(("barred", "high", clock, i, j))
    return found


def least_of(machine, run):
    """The least rate, as the greatest that pairs of moments ask for."""
    asked = [Fraction(0)]
    for clock, i, j, t, least, greatest, low, high in pairs_of(machine, run):
        if t == 0:
            asked.append(Fraction(1) if greatest < low or least > high else Fraction(0))
        else:
            asked.extend([(low - greatest) / t - 1, 1 - (high - least) / t])
    return max(asked) if max(asked) < 1 else None


def keeps_exactly(machine, rate, value):
    """Whether a value of the right form is a drift run, with readings as numbers; and the own readings."""
    readings, right, rows = [Fraction(0)] * machine.clocks, True, []
    rows.append(told(readings))
    for wait, steps, door in value:
        room, guards, resets, goal = machine.doors[door]
        for step in steps:
            right = right and (1 - rate) * Fraction(*wait) <= Fraction(*step) <= (1 + rate) * Fraction(*wait)
        ahead = [reading + Fraction(*step) for reading, step in zip(readings, steps)]
        readings = [Fraction(0) if clock in resets else reading for clock, reading in enumerate(ahead)]
        right = right and all([x <= limit for x, limit in zip(ahead, machine.limits[room])])
        right = right and all([low <= x <= high for x, (low, high) in zip(ahead, guards)])
        right = right and all([x <= limit for x, limit in zip(readings, machine.limits[goal])])
        rows.append(told(readings))
    return right, tuple(rows)


class Rates(Case):
    def test_examples(self):
        self.examples(EXAMPLES, dict(vars(module), Machine=Machine, needed=needed), vars(errors))

    def test_is_rate(self):
        self.judged(is_rate, [(0, 1), (1, 2), (MOST - 1, MOST), (1, MOST)], NO_RATES)

    def test_margins_and_rates(self):
        for rate in RATES + [Fraction(1, MOST), Fraction(MOST - 1, MOST)]:
            self.same(margin_for(pair(rate)), pair(4 * rate / (1 - rate)))
        for margin in (Fraction(0), Fraction(1, 3), Fraction(7, 2), Fraction(MOST)):
            self.same(rate_for(pair(margin)), pair(margin / (4 + margin)))
        for m in range(1, 65):
            self.same(rate_for((1, m)), (1, 4 * m + 1))
            self.same(margin_for((1, 4 * m + 1)), (1, m))
        self.all_refused(InvalidFraction, margin_for, NO_RATES)
        self.all_refused(InvalidFraction, rate_for, NO_FRACTIONS + ((-1, 2),))


class DriftRuns(Case):
    def test_drift_runs(self):
        chosen = random.Random(141)
        counts = {True: 0, False: 0}
        for machine, run in CASES:
            for rate in RATES[:5]:
                kind, value = drift_answer(machine, run, pair(rate))[:2]
                if kind == "barred" or not run:
                    continue
                at, clock = chosen.randrange(len(run)), chosen.randrange(machine.clocks)
                for by in (Fraction(0), Fraction(1, 100), Fraction(-1, 50), Fraction(1), Fraction(-1, 2)):
                    wait, steps, door = value[at]
                    steps = steps[:clock] + (pair(Fraction(*steps[clock]) + by),) + steps[clock + 1:]
                    other = value[:at] + ((wait, steps, door),) + value[at + 1:]
                    right, rows = keeps_exactly(machine, rate, other)
                    self.same(is_drift_run(machine, pair(rate), other), right)
                    counts[right] += 1
                    if right:
                        self.same(true_run(machine, pair(rate), other), run)
                        self.same(own_readings(machine, pair(rate), other), rows)
                    else:
                        self.refused(InvalidRun, true_run, machine, pair(rate), other)
                        self.refused(InvalidRun, own_readings, machine, pair(rate), other)
        self.assertGreater(min(counts.values()), 200)

    def test_judged_drift_runs(self):
        right = [(), D, (((4, 1), ((4, 1),), 0),), (((9, 2), ((4, 1),), 0),)]
        wrong = [list(D), D[0], D * 2, (list(D[0]),), (D[0][:2],), (D[0] + (0,),), (((5, 1), (4, 1), 0),),
                 (((5, 1), ((4, 1), (4, 1)), 0),), (((5, 1), (), 0),), (((5, 1), [(4, 1)], 0),), (((5, 1), ((8, 2),), 0),),
                 (((5, 1), ((4, True),), 0),), (((5, 1), ((4, 1),), False),), (((5, 1), ((4, 1),), 1),),
                 (((5, 1), ((4, 1),), -1),), (((-5, 1), ((4, 1),), 0),), (((10, 2), ((4, 1),), 0),), (0,), (None,),
                 (((5, 1), ((LONG, 1),), 0),), (((LONG, 1), ((4, 1),), 0),), (((6, 1), ((4, 1),), 0),),
                 (((4, 1), ((5, 1),), 0),), (((4, 1), ((7, 2),), 0),), (((3, 1), ((4, 1),), 0),), (((5, 1), ((-4, 1),), 0),)]
        self.judged(lambda value: is_drift_run(ONE, (1, 5), value), right, wrong)
        self.all_refused(InvalidMachine, lambda machine: is_drift_run(machine, 0, 0), NO_MACHINES)
        self.all_refused(InvalidFraction, lambda rate: is_drift_run(ONE, rate, 0), NO_RATES)

    def test_each_clock_in_its_own_way(self):
        steps = (((2, 1), ((1, 1), (3, 1)), 0),)
        self.same([is_drift_run(LOOP, rate, steps) for rate in ((1, 2), (1, 3))], [True, False])
        self.same(own_readings(LOOP, (1, 2), steps), (((0, 1), (0, 1)),) * 2)
        held = Machine(2, ((4, 4),), ((0, ((1, 1), (3, 3)), (0,), 0),))
        self.same(own_readings(held, (1, 2), steps), (((0, 1), (0, 1)), ((0, 1), (3, 1))))

    def test_bounds_that_are_kept_exactly(self):
        machine = Machine(1, ((2,), (1,)), ((0, ((0, 4),), (), 1), (0, ((0, 4),), (0,), 1)))
        for door, most in ((0, 1), (1, 2)):
            for step, right in ((Fraction(most), True), (most + Fraction(1, 10 ** 9), False)):
                self.same(is_drift_run(machine, (1, 2), ((pair(step), (pair(step),), door),)), right)

    def test_no_steps(self):
        self.same((is_drift_run(ONE, (0, 1), ()), true_run(ONE, (0, 1), ()), own_readings(ONE, (0, 1), ())),
                  (True, (), (((0, 1),),)))

    def test_as_many_steps_as_are_let(self):
        step = ((1, 2), ((1, 2), (1, 2)), 0)
        self.same([is_drift_run(LOOP, (0, 1), (step,) * many) for many in (20000, 20001)], [True, False])
        self.same(len(own_readings(LOOP, (0, 1), (step,) * 20000)), 20001)

    def test_true_runs_go_within_the_margin(self):
        """[14.2], [0.16]: the true run of a drift run at e goes within 4 e / (1 - e)."""
        tight = 0
        for machine, run in CASES:
            least = least_rate(machine, run)
            if least is not None:
                self.same(goes(machine, run, margin_for(least)), True)
                tight += Fraction(*needed(machine, run)) > 0
        self.assertGreater(tight, 30)
        # A slowest clock at the bound 4 needs just this.
        for rate in RATES:
            run = ((pair(4 / (1 - rate)), 0),)
            self.same((least_rate(ONE, run), needed(ONE, run)), (pair(rate), margin_for(pair(rate))))

    def test_wrong_arguments(self):
        for call in (true_run, own_readings):
            self.all_refused(InvalidMachine, lambda machine: call(machine, 0, 0), NO_MACHINES)
            self.all_refused(InvalidFraction, lambda rate: call(ONE, rate, 0), NO_RATES)
            wrong = NO_TUPLES + (D * 2, (((5, 1), 0),), list(D), (None,))
            self.all_refused(InvalidRun, lambda drift: call(ONE, (1, 5), drift), wrong)
            self.refused(InvalidRun, call, ONE, (1, 6), D)


class Answers(Case):
    def test_answers(self):
        counts = {"drift": 0, "barred": 0}
        for machine, run in CASES:
            for rate in RATES:
                answer = drift_answer(machine, run, pair(rate))
                wanted = bars(machine, run, rate)
                counts[answer[0]] += 1
                self.same(is_drift_answer(machine, run, pair(rate), answer), True)
                if wanted:
                    self.assertIn(answer, wanted)
                else:
                    self.same((answer[0], len(answer)), ("drift", 2))
                    self.same(keeps_exactly(machine, rate, answer[1])[0], True)
                    self.same(tuple([(wait, door) for wait, steps, door in answer[1]]), run)
                for word in ("low", "high"):
                    for clock in range(machine.clocks):
                        for i in range(len(run) + 1):
                            for j in range(len(run) + 1):
                                value = ("barred", word, clock, i, j)
                                self.same(is_drift_answer(machine, run, pair(rate), value), value in wanted)
        self.assertGreater(min(counts.values()), 200)

    def test_least_rates(self):
        counts = {"none": 0, "zero": 0, "more": 0}
        for machine, run in CASES + cases(142, 400, 4):
            found, wanted = least_rate(machine, run), least_of(machine, run)
            self.same(found, None if wanted is None else pair(wanted))
            counts["none" if wanted is None else "more" if wanted > 0 else "zero"] += 1
            if wanted is None:
                self.same(drift_answer(machine, run, (10 ** 30 - 1, 10 ** 30))[0], "barred")
            else:
                self.same(drift_answer(machine, run, found)[0], "drift")
                if wanted > 0:
                    less = wanted * Fraction(10 ** 9 - 1, 10 ** 9)
                    self.same(drift_answer(machine, run, pair(less))[0], "barred")
        self.assertGreater(min(counts.values()), 60)

    def test_a_moment_that_bars_itself(self):
        """A guard above the limit of its room leaves no reading at all."""
        machine = Machine(1, ((2,), (2,)), ((0, ((3, 4),), (0,), 1),))
        run = (((5, 2), 0),)
        self.same(least_rate(machine, run), None)
        self.same(drift_answer(machine, run, (1, 2)), ("barred", "low", 0, 1, 1))
        self.same([is_drift_answer(machine, run, (1, 2), ("barred", word, 0, 1, 1)) for word in ("low", "high")],
                  [True, True])
        self.same(is_drift_answer(machine, run, (1, 2), ("barred", "low", 0, 0, 1)), False)

    def test_what_a_goal_asks_for(self):
        """The limit of the goal counts, unless the door puts the clock back."""
        machine = Machine(1, ((4,), (1,)), ((0, ((0, 4),), (), 1), (0, ((0, 4),), (0,), 1)))
        self.same([least_rate(machine, (((2, 1), door),)) for door in (0, 1)], [(1, 2), (0, 1)])

    def test_equality(self):
        run = (((1, 1), 0), ((3, 2), 1))
        self.same([drift_answer(TWO, run, rate)[0] for rate in ((1, 3), (33333, 100000))], ["drift", "barred"])
        # A clock that stands still only is not let: each rate is below 1.
        still = Machine(1, ((4,),) * 3, ((0, ((1, 1),), (), 1), (1, ((1, 1),), (), 2)))
        self.same(least_rate(still, (((1, 1), 0), ((1, 1), 1))), None)
        self.same(least_rate(still, (((1, 1), 0), ((0, 1), 1))), (0, 1))
        # One that runs twice as fast is not let either.
        fast = Machine(1, ((4,),) * 2, ((0, ((2, 2),), (), 1),))
        self.same([least_rate(fast, ((wait, 0),)) for wait in ((1, 1), (10 ** 9 + 1, 10 ** 9))],
                  [None, (10 ** 9 - 1, 10 ** 9 + 1)])

    def test_judged_answers(self):
        run = (((3, 1), 0),)
        right = [("drift", (((3, 1), ((4, 1),), 0),))]
        wrong = [("drift", D), ("drift", ()), ("drift", (((3, 1), ((3, 1),), 0),)), ["drift", right[0][1]],
                 ("drift", right[0][1], 0), ("Drift", right[0][1]), ("barred", "low", 0, 0, 1), ("drift", None),
                 ("drift", (((3, 1), ((4, 1),), False),)), ("drift", run)]
        self.judged(lambda value: is_drift_answer(ONE, run, (1, 3), value), right, wrong)
        right = [("barred", "low", 0, 0, 1)]
        wrong = [("barred", "low", 0, 0, value) for value in NO_INTEGERS + (0, 2, -1)]
        wrong += [("barred", "low", 0, value, 1) for value in NO_INTEGERS + (1, 2, -1)]
        wrong += [("barred", "low", value, 0, 1) for value in NO_INTEGERS + (1, -1)]
        wrong += [("barred", value, 0, 0, 1) for value in ("high", "stay", "", 0, None, ("low",), ["low"], {})]
        wrong += [("Barred", "low", 0, 0, 1), ("barred", "low", 0, 0), ("barred", "low", 0, 0, 1, 0), ("low", 0, 0, 1),
                  ["barred", "low", 0, 0, 1], ("drift", (((3, 1), ((4, 1),), 0),))]
        self.judged(lambda value: is_drift_answer(ONE, run, (1, 4), value), right, wrong)

    def test_moments_behind_a_putting_back(self):
        """No bound counts across a moment at which the clock was put back."""
        machine = Machine(1, ((4,),), ((0, ((0, 4),), (0,), 0), (0, ((2, 2),), (), 0)))
        run = (((4, 1), 0), ((1, 1), 1))
        self.same(drift_answer(machine, run, (0, 1)), ("barred", "low", 0, 1, 2))
        for i in (0, 2):
            self.same(is_drift_answer(machine, run, (0, 1), ("barred", "low", 0, i, 2)), False)
        self.same(least_rate(machine, run), None)
        self.same(least_rate(machine, (((4, 1), 0), ((3, 2), 1))), (1, 3))

    def test_long_runs(self):
        run = (((1, 2), 0),) * 20000
        self.same(least_rate(LOOP, run), (0, 1))
        kind, drift = drift_answer(LOOP, run, (1, 7))
        self.same((kind, is_drift_answer(LOOP, run, (1, 7), (kind, drift))), ("drift", True))
        still = Machine(1, ((4,),), ((0, ((4, 4),), (), 0),))
        run = (((4, 1), 0),) + (((0, 1), 0),) * 19999
        self.same(least_rate(still, run), (0, 1))
        run = run[:-1] + (((1, 1), 0),)
        self.same((least_rate(still, run), drift_answer(still, run, (1, 2))[:3]), (None, ("barred", "high", 0)))

    def test_steps_of_simple_numbers(self):
        """Where waits have long bottoms, own readings can be chosen that have none: so what is told can be passed."""
        chosen = random.Random(143)
        machine = Machine(1, ((4,),), ((0, ((0, 4),), (), 0),))
        run = tuple([((1, 10 ** 7 + chosen.randrange(10 ** 6)), 0) for _ in range(60)])
        answer = drift_answer(machine, run, (1, 9))
        self.same((answer[0], is_drift_answer(machine, run, (1, 9), answer)), ("drift", True))

    def test_wrong_arguments(self):
        for call in (drift_answer, lambda machine, run, rate: is_drift_answer(machine, run, rate, 0)):
            self.all_refused(InvalidMachine, lambda machine: call(machine, 0, 0), NO_MACHINES)
            self.all_refused(InvalidRun, lambda run: call(ONE, run, 0), [run for run in NO_RUNS if not is_run(ONE, run)])
            self.all_refused(InvalidFraction, lambda rate: call(ONE, (), rate), NO_RATES)
        self.all_refused(InvalidMachine, lambda machine: least_rate(machine, 0), NO_MACHINES)
        self.all_refused(InvalidRun, lambda run: least_rate(ONE, run), EVERYTHING[:5] + (D, [], (None,)))

    def test_what_is_not_true(self):
        # A run within 4 e / (1 - e) is not always a true run at e.
        self.same((needed(ONE, (((3, 1), 0),)), margin_for((1, 5)), least_rate(ONE, (((3, 1), 0),))),
                  ((1, 1), (1, 1), (1, 3)))
        # Clocks that are put back by the same doors need not have equal own readings.
        held = Machine(2, ((4, 4),), ((0, ((1, 1), (3, 3)), (), 0),))
        self.same(own_readings(held, (1, 2), (((2, 1), ((1, 1), (3, 1)), 0),))[1], ((1, 1), (3, 1)))

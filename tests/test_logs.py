"""Stage 16: seen moments, against least sums of all rows of bounds, and against rounds that are tried one by one."""
import random
from fractions import Fraction
from itertools import product

from anymargin import errors
from anymargin.errors import InvalidFraction, InvalidLog, InvalidMachine, InvalidOperation, InvalidRun, TooMany
from anymargin.machine.machines import Machine
from anymargin.machine.runs import is_run, moments, needed, part_of
from anymargin.real import logs as module
from anymargin.real.logs import (
    bound_told, bounds, explain_answer, explains, is_barring, is_least_explaining, is_log, least_explaining, log_of)
from tests.support import (
    EVERYTHING, HOLDS, LONG, MOST, NO_FRACTIONS, NO_TUPLES, Case, pair, random_machine, random_run)
from tests.test_runs import LOOP, NO_MACHINES, NO_RUNS

EXAMPLES = """
>>> M = Machine(1, ((2,), (3,)), ((0, ((1, 2),), (0,), 1), (1, ((3, 3),), (), 0)))
>>> LOG = ((0, (1, 1), (2, 1)), (1, (4, 1), (4, 1)))
>>> [explain_answer(M, LOG, (1, 2)), bound_told(M, LOG, ("least", 2, 0))]
[('run', (((3, 2), 0), ((5, 2), 1))), (1, 2, (-3, 1), True)]
>>> [is_barring(M, LOG, (1, 3), (("least", 2, 0), ("enter", 2, 0))), is_barring(M, LOG, (1, 2), (("least", 2, 0), ("enter", 2, 0)))]
[True, False]
>>> [least_explaining(M, LOG)[:2], least_explaining(M, LOG[:1])[1], least_explaining(M, ((0, (3, 1), (3, 1)), (1, (1, 1), (2, 1))))[0]]
[('least', (1, 2)), (0, 1), 'never']
"""

M = Machine(1, ((2,), (3,)), ((0, ((1, 2),), (0,), 1), (1, ((3, 3),), (), 0)))
LOG = ((0, (1, 1), (2, 1)), (1, (4, 1), (4, 1)))

# The same machine, but its door 1 puts the clock back, too: so it has runs that need no margin.
BACK = Machine(1, M.limits, (M.doors[0], (1, ((3, 3),), (0,), 0)))

NO_SEEN = NO_TUPLES + (
    (), (0, (1, 1)), (0, (1, 1), (2, 1), 0), [0, (1, 1), (2, 1)], (True, (1, 1), (2, 1)), (False, (1, 1), (2, 1)),
    (1, (1, 1), (2, 1)), (2, (1, 1), (2, 1)), (-1, (1, 1), (2, 1)), (LONG, (1, 1), (2, 1)), (None, (1, 1), (2, 1)),
    ("0", (1, 1), (2, 1)), (0, (2, 1), (1, 1)), (0, (-1, 1), (2, 1)), (0, (-2, 1), (-1, 1)), ((1, 1), (2, 1), 0)) + tuple(
    [(0, low, (2, 1)) for low in NO_FRACTIONS]) + tuple([(0, (1, 1), high) for high in NO_FRACTIONS])
NO_LOGS = NO_TUPLES + tuple([(seen,) for seen in NO_SEEN]) + (LOG[1:], LOG + LOG[1:], list(LOG), LOG[:1] * 2, LOG[0], (LOG,))


def stretched(chosen, time, wide):
    low = max(Fraction(0), time - chosen.choice(wide))
    return pair(low), pair(max(low, time + chosen.choice(wide)))


def random_log(chosen, machine, most):
    """A log that is near to a run, or to none."""
    wide = chosen.choice(((Fraction(0),), (Fraction(0), Fraction(1, 2)), (Fraction(1), Fraction(1, 3), Fraction(-1, 2))))
    run = random_run(chosen, machine, most)
    return tuple([(door,) + stretched(chosen, Fraction(*time) + chosen.choice((0, 0, 1, -1)), wide)
                  for (wait, door), time in zip(run, moments(run))])


def cases(seed, many, most):
    chosen = random.Random(seed)
    found = [(M, LOG), (M, LOG[:1]), (M, ()), (HOLDS, ()), (M, ((0, (3, 1), (3, 1)), (1, (1, 1), (2, 1))))]
    while len(found) < many:
        machine = random_machine(chosen, chosen.choice((1, 2, 3)), chosen.choice((1, 2, 3)), chosen.choice((1, 3, 8)))
        log = random_log(chosen, machine, most)
        if len(log) > 1 or len(found) % 5 == 0:
            found.append((machine, log))
    return found


CASES = cases(160, 260, 5)
MARGINS = [Fraction(0), Fraction(1, 3), Fraction(1, 2), Fraction(2), Fraction(9)]


def told_model(machine, log):
    """All bounds with what they say, from the words of the document."""
    rows = []
    backs = {clock: 0 for clock in range(machine.clocks)}
    for i, (door, low, high) in enumerate(log, 1):
        room, guards, resets, goal = machine.doors[door]
        rows.append((("order", i), (i - 1, i, (0, 1), False)))
        rows.append((("low", i), (0, i, pair(-Fraction(*low)), False)))
        rows.append((("high", i), (i, 0, high, False)))
        for clock, b in backs.items():
            rows.append((("least", i, clock), (b, i, (-guards[clock][0], 1), True)))
        for clock, b in backs.items():
            rows.append((("most", i, clock), (i, b, (guards[clock][1], 1), True)))
        for clock, b in backs.items():
            rows.append((("stay", i, clock), (i, b, (machine.limits[room][clock], 1), True)))
        for clock, b in backs.items():
            if clock not in resets:
                rows.append((("enter", i, clock), (i, b, (machine.limits[goal][clock], 1), True)))
        backs = {clock: i if clock in resets else b for clock, b in backs.items()}
    return rows


def least_sums(machine, log, margin, seen_alone=False):
    """The least sums from each moment to each other one; one of a moment to itself below 0 tells of a round."""
    many = len(log) + 1
    table = [[None] * many for _ in range(many)]
    for at in range(many):
        table[at][at] = Fraction(0)
    for bound, (x, y, w, machines) in told_model(machine, log):
        if machines and seen_alone:
            continue
        number = Fraction(*w) + (margin if machines else 0)
        if table[x][y] is None or number < table[x][y]:
            table[x][y] = number
    for k, i, j in product(range(many), repeat=3):
        if table[i][k] is not None and table[k][j] is not None:
            through = table[i][k] + table[k][j]
            if table[i][j] is None or through < table[i][j]:
                table[i][j] = through
    return table


def does_fall(machine, log, margin, seen_alone=False):
    return any([row[at] < 0 for at, row in enumerate(least_sums(machine, log, margin, seen_alone))])


def explained(machine, log, margin, run):
    """Whether a run of the machine explains the log."""
    if tuple([door for wait, door in run]) != tuple([seen[0] for seen in log]):
        return False
    if not all([Fraction(*low) <= Fraction(*time) <= Fraction(*high) for time, (door, low, high) in zip(moments(run), log)]):
        return False
    return Fraction(*needed(machine, run)) <= margin


def sums_of(machine, log, value):
    """The sum at 0 and the number of bounds of the machine; None for what is no round."""
    told = dict(told_model(machine, log))
    rows = [told[bound] for bound in value]
    if not rows or len(rows) > 1000 or not all([row[1] == more[0] for row, more in zip(rows, rows[1:] + rows[:1])]):
        return None
    return sum([Fraction(*row[2]) for row in rows]), sum([row[3] for row in rows])


class Logs(Case):
    def test_examples(self):
        self.examples(EXAMPLES, dict(vars(module), Machine=Machine), vars(errors))

    def test_judged_logs(self):
        right = [(), LOG, LOG[:1], ((0, (0, 1), (MOST, 1)),), ((0, (1, MOST), (1, MOST)), (1, (0, 1), (0, 1))),
                 (LOG * 50)[:100]]
        self.judged(lambda value: is_log(M, value), right, NO_LOGS + ((LOG * 51)[:101],))
        self.all_refused(InvalidMachine, lambda machine: is_log(machine, 0), NO_MACHINES)

    def test_bounds(self):
        for machine, log in CASES:
            rows = told_model(machine, log)
            self.same(bounds(machine, log), tuple([bound for bound, told in rows]))
            for bound, told in rows:
                self.same(bound_told(machine, log, bound), told)

    def test_a_run_explains_if_its_moments_keep_all_bounds(self):
        chosen = random.Random(161)
        counts = {True: 0, False: 0}
        for machine, log in CASES:
            for _ in range(6):
                times, now = [Fraction(0)], Fraction(0)
                for door, low, high in log:
                    now = max(now, chosen.choice((Fraction(*low), Fraction(*high), now, now + 1)))
                    times.append(now)
                run = tuple([(pair(b - a), seen[0]) for a, b, seen in zip(times, times[1:], log)])
                for margin in MARGINS:
                    keeps = all([times[x] - times[y] <= Fraction(*w) + (margin if machines else 0)
                                 for bound, (x, y, w, machines) in told_model(machine, log)])
                    self.same(explains(machine, log, pair(margin), run), keeps)
                    self.same(explained(machine, log, margin, run), keeps)
                    counts[keeps] += 1
        self.assertGreater(min(counts.values()), 200)

    def test_a_run_or_a_round(self):
        counts = {"run": 0, "barred": 0}
        for machine, log in CASES:
            for margin in MARGINS:
                word, value = explain_answer(machine, log, pair(margin))
                counts[word] += 1
                self.same(word == "barred", does_fall(machine, log, margin))
                if word == "run":
                    self.same((is_run(machine, value), explained(machine, log, margin, value)), (True, True))
                    self.same(explains(machine, log, pair(margin), value), True)
                else:
                    sums = sums_of(machine, log, value)
                    self.assertLess(sums[0] + sums[1] * margin, 0)
                    self.same(is_barring(machine, log, pair(margin), value), True)
                    self.same(is_barring(machine, log, pair(max(0, margin + sums[0] + 20)), value),
                              sums[0] + sums[1] * max(0, margin + sums[0] + 20) < 0)
                self.same(is_barring(machine, log, pair(margin), ()), False)
        self.assertGreater(min(counts.values()), 200)

    def test_least_margins(self):
        words = {"never": 0, 0: 0, 1: 0}
        for machine, log in CASES:
            found = least_explaining(machine, log)
            self.same(is_least_explaining(machine, log, found), True)
            self.same(found[0] == "never", does_fall(machine, log, Fraction(0), seen_alone=True))
            if found[0] == "never":
                words["never"] += 1
                sums = sums_of(machine, log, found[1])
                self.same((len(found), sums[1], sums[0] < 0), (2, 0, True))
                continue
            word, least, run, around = found
            margin = Fraction(*least)
            words[int(margin > 0)] += 1
            self.same((word, explained(machine, log, margin, run)), ("least", True))
            if margin == 0:
                self.same(around, None)
            else:
                sums = sums_of(machine, log, around)
                self.same((sums[0] + sums[1] * margin, sums[1] > 0), (Fraction(0), True))
                less = margin - Fraction(1, 10 ** 9)
                self.same(explain_answer(machine, log, pair(max(Fraction(0), less)))[0], "barred")
        self.assertGreater(min(words.values()), 20)

    def test_wider_stretches_and_earlier_ends(self):
        for machine, log in CASES:
            found = least_explaining(machine, log)
            if found[0] == "never":
                continue
            wide = tuple([(door, pair(Fraction(*low) / 2), pair(Fraction(*high) + Fraction(1, 3))) for door, low, high in log])
            for other in (wide, log[:-1], log[:1], ()):
                less = least_explaining(machine, other)
                self.same(less[0], "least")
                self.assertLessEqual(Fraction(*less[1]), Fraction(*found[1]))

    def test_logs_of_runs(self):
        chosen = random.Random(162)
        more = 0
        for _ in range(150):
            machine = random_machine(chosen, chosen.choice((1, 2, 3)), 2, 6)
            run = random_run(chosen, machine, 8)
            log = log_of(machine, run, (0, 1))
            self.same(log, tuple([(door, time, time) for (wait, door), time in zip(run, moments(run))]))
            found = least_explaining(machine, log)
            self.same(found[:3], ("least", needed(machine, run), run))
            more += found[1] != (0, 1)
            slack = Fraction(2, 3)
            wide = log_of(machine, run, pair(slack))
            self.same(wide, tuple([(door, pair(max(Fraction(0), Fraction(*time) - slack)), pair(Fraction(*time) + slack))
                                   for (wait, door), time in zip(run, moments(run))]))
            self.assertLessEqual(Fraction(*least_explaining(machine, wide)[1]), Fraction(*found[1]))
        self.assertGreater(more, 30)

    def test_long_logs(self):
        chosen = random.Random(163)
        for _ in range(6):
            machine = Machine(3, ((4, 4, 4),) * 2, (
                (0, ((1, 3), (0, 4), (0, 4)), (0,), 1), (1, ((0, 2), (1, 4), (0, 4)), (1,), 0),
                (1, ((0, 4), (0, 4), (2, 3)), (2,), 0), (0, ((0, 4), (0, 1), (0, 4)), (0, 1, 2), 0)))
            run = ()
            while len(run) < 100:
                run = random_run(chosen, machine, 200, (1, 2, 7))[:100]
            log = log_of(machine, run, pair(Fraction(1, chosen.choice((2, 3)))))
            found = least_explaining(machine, log)
            self.same((is_least_explaining(machine, log, found), found[0]), (True, "least"))
            self.same(explain_answer(machine, log, found[1])[0], "run")
            self.same(explain_answer(machine, log, pair(Fraction(*found[1]) / 2))[0], "barred")
        never = tuple([(0, (200 - at, 1), (200 - at, 1)) for at in range(100)])
        found = least_explaining(LOOP, never)
        self.same((found[0], is_least_explaining(LOOP, never, found)), ("never", True))

    def test_edges(self):
        self.same([explain_answer(M, (), (0, 1)), least_explaining(M, ()), bounds(M, ()), log_of(M, (), (0, 1))],
                  [("run", ()), ("least", (0, 1), (), None), (), ()])
        # Points, and equality in each bound.
        exact = ((0, (2, 1), (2, 1)), (1, (5, 1), (5, 1)))
        self.same(least_explaining(BACK, exact), ("least", (0, 1), (((2, 1), 0), ((3, 1), 1)), None))
        early = ((0, (0, 1), (1, 1)), (1, (0, 1), (1, 1)))
        self.same([explain_answer(M, early, margin)[0] for margin in ((0, 1), (199, 100), (2, 1))], ["barred", "barred", "run"])
        # Wide stretches leave the machine alone.
        wide = tuple([(door, (0, 1), (MOST, 1)) for door in (0, 1, 0, 1)])
        self.same([least_explaining(machine, wide)[1] for machine in (M, BACK)], [(1, 2), (0, 1)])
        self.same(log_of(M, (((1, 2), 0),), (MOST, 1)), ((0, (0, 1), (2 * MOST + 1, 2)),))


class Judges(Case):
    def test_judged_rounds(self):
        round_of = (("least", 2, 0), ("enter", 2, 0))
        right = [round_of, round_of[::-1], round_of * 500, (("high", 1), ("order", 1), ("high", 2), ("low", 2)) + round_of * 9]
        right = [value for value in right if sums_of(M, LOG, value) and sum(sums_of(M, LOG, value)[:1]) < 0]
        self.same(len(right), 3)
        wrong = [(), round_of * 501, round_of[:1], list(round_of), round_of + round_of[:1], (("high", 1), ("low", 1)),
                 (["least", 2, 0], ("enter", 2, 0)), (("least", 2, 0), ("enter", 2, False)), (("least", 2, 0), ("enter", 2)),
                 (("least", True, 0),), (("order", 1),), (("least", 3, 0), ("enter", 3, 0)), (("least", 0, 0),), ("order", 1),
                 (("least", 2, 1), ("enter", 2, 1)), (("least", 2, 0), ("enter", 2, 0, 0)), (("least", 2, LONG),), (None,),
                 (("least", 2), ("enter", 2))]
        self.judged(lambda value: is_barring(M, LOG, (0, 1), value), right, wrong)
        # Equality does not bar: the sum has to be below 0.
        for margin, wanted in (((1, 2), False), ((4, 9), True), ((10 ** 59 - 1, 2 * 10 ** 59 - 1), True), ((MOST, 1), False)):
            self.same(is_barring(M, LOG, margin, round_of), wanted)

    def test_each_bound(self):
        told = dict(told_model(M, LOG))
        for bound in told:
            self.same(bound_told(M, LOG, bound), told[bound])
        words = ("order", "low", "high", "least", "most", "stay", "enter", "Order", "", 0, None, True, ("low",))
        wrong = [(word, i) for word in words for i in (0, 1, 2, 3, -1, True, None, "1", LONG)]
        wrong += [(word, i, clock) for word in words for i in (0, 1, 2, True) for clock in (0, 1, -1, True, False, None)]
        wrong = [value for value in wrong if repr(value) not in [repr(bound) for bound in told]] + list(EVERYTHING)
        wrong += [list(bound) for bound in told] + [bound + (0, 0) for bound in told]
        self.assertIn(("enter", 1, 0), wrong)
        self.all_refused(InvalidOperation, lambda bound: bound_told(M, LOG, bound), wrong)

    def test_judged_runs(self):
        right = [(((3, 2), 0), ((5, 2), 1))]
        wrong = [(((1, 1), 0), ((3, 1), 1)), (((2, 1), 0), ((2, 1), 1)), (((3, 2), 0),), (), (((3, 2), 0), ((3, 1), 1)),
                 [((3, 2), 0), ((5, 2), 1)], (((3, 2), 0), ((5, 2), True)), (((0, 1), 0), ((4, 1), 1))]
        self.judged(lambda value: explains(M, LOG, (1, 2), value), right, wrong + list(NO_RUNS[:60]))
        self.judged(lambda value: explains(M, LOG, (1, 1), value),
                    right + [(((1, 1), 0), ((3, 1), 1)), (((2, 1), 0), ((2, 1), 1))], [])
        self.judged(lambda value: explains(M, (), (0, 1), value), [()], right)

    def test_judged_least_margins(self):
        run, around = (((3, 2), 0), ((5, 2), 1)), (("least", 2, 0), ("enter", 2, 0))
        right = [("least", (1, 2), run, around), ("least", (1, 2), run, around[::-1] * 3)]
        wrong = [("least", (1, 1), run, around), ("least", (1, 2), run, None), ("least", (1, 3), run, around),
                 ("least", (2, 4), run, around), ("least", (1, 2), run), ("never", around), ("never", around, 0),
                 ["least", (1, 2), run, around], ("Least", (1, 2), run, around), ("least", (1, 2), run[:1], around),
                 ("least", (1, 2), run, (("low", 1), ("high", 1))), ("least", (0, 1), run, None), ("least", (1, 2), run, ()),
                 ("least", (1, 1), (((1, 1), 0), ((3, 1), 1)), around), ("least", (-1, 2), run, around)]
        self.judged(lambda value: is_least_explaining(M, LOG, value), right, wrong)
        exact = ((0, (2, 1), (2, 1)), (1, (5, 1), (5, 1)))
        zero = (((2, 1), 0), ((3, 1), 1))
        flat = (("least", 2, 0), ("most", 2, 0))
        self.same(sums_of(BACK, exact, flat), (Fraction(0), 2))
        self.judged(lambda value: is_least_explaining(BACK, exact, value), [("least", (0, 1), zero, None)],
                    [("least", (0, 1), zero, flat), ("least", (0, 1), zero, ()), ("least", (0, 2), zero, None)])
        never = ((0, (3, 1), (3, 1)), (1, (1, 1), (2, 1)))
        falls = (("order", 2), ("high", 2), ("low", 1))
        self.judged(lambda value: is_least_explaining(M, never, value), [("never", falls), ("never", falls * 333)],
                    [("never", falls[1:]), ("never", falls * 334), ("never", None), ("never", around)])

    def test_wrong_arguments(self):
        calls = (bounds, lambda machine, log: bound_told(machine, log, 0), lambda machine, log: explains(machine, log, 0, 0),
                 lambda machine, log: is_barring(machine, log, 0, 0), lambda machine, log: explain_answer(machine, log, 0),
                 least_explaining, lambda machine, log: is_least_explaining(machine, log, 0))
        for call in calls:
            self.all_refused(InvalidMachine, lambda machine: call(machine, 0), NO_MACHINES)
            self.all_refused(InvalidLog, lambda log: call(M, log), NO_LOGS + ((LOG * 51)[:101],))
        for call in (explain_answer, lambda *given: explains(*given, 0), lambda *given: is_barring(*given, 0)):
            self.all_refused(InvalidFraction, lambda margin: call(M, LOG, margin), NO_FRACTIONS + ((-1, 2),))

    def test_errors_of_logs_of_runs(self):
        self.all_refused(InvalidMachine, lambda machine: log_of(machine, 0, 0), NO_MACHINES)
        self.all_refused(InvalidRun, lambda run: log_of(M, run, 0), NO_RUNS)
        run = (((1, 1), 0),) * 101
        self.all_refused(InvalidFraction, lambda slack: log_of(LOOP, run, slack), NO_FRACTIONS + ((-1, 2),))
        self.refused(TooMany, log_of, LOOP, run, (0, 1), limit=100)
        self.same(len(log_of(LOOP, part_of(run, 100), (0, 1))), 100)

"""Stage 8: runs, against readings that are added up with fractions of Python's library."""
import random
from fractions import Fraction

from anymargin import errors
from anymargin.errors import InvalidFraction, InvalidMachine, InvalidNumber, InvalidOperation, InvalidRun
from anymargin.machine import runs as module
from anymargin.machine.machines import Machine
from anymargin.machine.runs import (
    goes, is_run, misses, mixed, moments, needed, part_of, room_behind, run_fault, standings, time_of)
from tests.support import (
    EVERYTHING, HOLDS, LONG, MACHINE, MOST, NO_FRACTIONS, NO_INTEGERS, NO_TUPLES, Case, pair, random_machine,
    random_run, told)

EXAMPLES = """
>>> M = Machine(1, ((2,), (3,)), ((0, ((1, 2),), (0,), 1), (1, ((3, 3),), (), 0)))
>>> RUN, OTHER = (((3, 2), 0), ((5, 2), 1)), (((1, 1), 0), ((3, 1), 1))
>>> [standings(M, RUN), moments(RUN), needed(M, RUN), needed(M, OTHER)]
[((0, ((0, 1),)), (1, ((0, 1),)), (0, ((5, 2),))), ((3, 2), (4, 1)), (1, 2), (1, 1)]
>>> [misses(M, RUN)[1], run_fault(M, RUN, (1, 3)), goes(M, RUN, (1, 2)), run_fault(M, RUN, (1, 2))]
[{'stay': ((0, 1),), 'low': ((1, 2),), 'high': ((0, 1),), 'enter': ((1, 2),)}, (1, 'low', 0), True, None]
>>> [mixed(M, RUN, OTHER, (1, 2)), needed(M, mixed(M, RUN, OTHER, (1, 2))), room_behind(M, RUN[:1]), is_run(M, RUN[1:])]
[(((5, 4), 0), ((11, 4), 1)), (3, 4), 1, False]
>>> needed(M, RUN[1:])
raises InvalidRun
"""

M = Machine(1, ((2,), (3,)), ((0, ((1, 2),), (0,), 1), (1, ((3, 3),), (), 0)))
RUN = (((3, 2), 0), ((5, 2), 1))

# One step for ever: equal waits can be as many as are let.
LOOP = Machine(2, ((4, 4),), ((0, ((0, 4), (0, 4)), (0, 1), 0),))
WORDS = ("stay", "low", "high", "enter")

NO_MACHINES = tuple([value for value in EVERYTHING if not isinstance(value, Machine)])

# Members that are no step of M at its beginning.
NO_STEPS = NO_TUPLES + ((), ((1, 1),), ((1, 1), 0, 0), [(1, 1), 0], ((1, 1), True), ((1, 1), False), ((1, 1), None),
                        ((1, 1), "0"), ((1, 1), -1), ((1, 1), 12), ((1, 1), LONG), ((1, 1), (0,)), (0, (1, 1)),
                        ((-1, 1), 0)) + tuple([(wait, 0) for wait in NO_FRACTIONS])

# Values that are no steps of a run of any machine.
NO_ROWS = NO_TUPLES + tuple([(step,) for step in NO_STEPS]) + (
    (((1, 1), 0), None), [((1, 1), 0)], (((1, 1), 0),) * 20001, ((1, 1), 0), ((((1, 1), 0),),))

# Values that are no runs of M.
NO_RUNS = NO_ROWS + ((((1, 1), 1),), (((1, 1), 0), ((1, 1), 0)), (((1, 1), 2),), (((1, 1), 11),),
                     (((1, 1), 0), ((1, 1), 1), ((1, 1), 1)))


def pairs(seed, many, most=6):
    """Machines, each with a run."""
    chosen = random.Random(seed)
    found = []
    for at in range(many):
        machine = random_machine(chosen, at % 3 + 1, chosen.choice((1, 2, 4)), chosen.choice((1, 4, 12)))
        found.append((machine, random_run(chosen, machine, most)))
    return found


def visited(machine, run):
    """For each step the readings at the end of the wait, and behind the door, as numbers."""
    readings = [Fraction(0)] * machine.clocks
    rows = []
    for wait, door in run:
        ahead = [reading + Fraction(*wait) for reading in readings]
        readings = [Fraction(0) if clock in machine.doors[door][2] else ahead[clock] for clock in range(machine.clocks)]
        rows.append((ahead, readings))
    return rows


def missed(machine, run):
    """For each step the dict of the misses, as numbers."""
    rows = []
    for (wait, door), (ahead, behind) in zip(run, visited(machine, run)):
        room, guards, resets, goal = machine.doors[door]
        rows.append({
            "stay": [max(0, x - limit) for x, limit in zip(ahead, machine.limits[room])],
            "low": [max(0, low - x) for x, (low, high) in zip(ahead, guards)],
            "high": [max(0, x - high) for x, (low, high) in zip(ahead, guards)],
            "enter": [max(0, x - limit) for x, limit in zip(behind, machine.limits[goal])]})
    return rows


def all_missed(machine, run):
    return [miss for row in missed(machine, run) for word in WORDS for miss in row[word]]


class Forms(Case):
    def test_examples(self):
        self.examples(EXAMPLES, dict(vars(module), Machine=Machine), vars(errors))

    def test_constant(self):
        self.same(module.MOST_STEPS, 20000)

    def test_is_run(self):
        right = [(), (((0, 1), 0),), RUN, RUN[:1], RUN * 3, (((MOST, 1), 0), ((1, MOST), 1)), RUN * 10000]
        self.judged(lambda value: is_run(M, value), right, NO_RUNS + (RUN * 10000 + RUN[:1], RUN[1:]))
        self.judged(lambda value: is_run(MACHINE, value), [()], (RUN,))
        self.all_refused(InvalidMachine, lambda machine: is_run(machine, 0), NO_MACHINES)

    def test_doors_follow_one_another(self):
        for machine, run in pairs(81, 150):
            self.same(is_run(machine, run), True)
            for at in range(len(run)):
                for door in range(13):
                    other = run[:at] + ((run[at][0], door),) + run[at + 1:]
                    rooms, right = 0, True
                    for wait, index in other:
                        right = right and index < len(machine.doors) and machine.doors[index][0] == rooms
                        rooms = machine.doors[index][3] if right else None
                    self.same(is_run(machine, other), right)

    def test_errors(self):
        for call in (standings, misses, needed, room_behind):
            self.all_refused(InvalidMachine, lambda machine: call(machine, 0), NO_MACHINES)
            self.all_refused(InvalidRun, lambda run: call(M, run), NO_RUNS)
        for call in (goes, run_fault):
            self.all_refused(InvalidMachine, lambda machine: call(machine, 0, 0), NO_MACHINES)
            self.all_refused(InvalidRun, lambda run: call(M, run, 0), NO_RUNS)
            self.all_refused(InvalidFraction, lambda margin: call(M, RUN, margin), NO_FRACTIONS + ((-1, 2),))
        for call in (moments, time_of, lambda run: part_of(run, "a")):
            self.all_refused(InvalidRun, call, NO_ROWS)
        self.all_refused(InvalidNumber, lambda many: part_of(RUN, many), NO_INTEGERS + (-1, 3), "given")

    def test_errors_of_mixed(self):
        self.all_refused(InvalidMachine, lambda machine: mixed(machine, 0, 0, 0), NO_MACHINES)
        self.all_refused(InvalidRun, lambda one: mixed(M, one, 0, 0), NO_RUNS)
        self.all_refused(InvalidRun, lambda other: mixed(M, RUN, other, 0), NO_RUNS)
        wrong = NO_FRACTIONS + ((-1, 2), (3, 2), (MOST, 1), (2, 1))
        for other in (RUN, RUN[:1]):
            self.all_refused(InvalidFraction, lambda weight: mixed(M, RUN, other, weight), wrong)
        for other in ((), RUN[:1], RUN + RUN[:1]):
            self.refused(InvalidOperation, mixed, M, RUN, other, (1, 2))
        two = Machine(1, ((4,),), ((0, ((0, 4),), (), 0),) * 2)
        self.refused(InvalidOperation, mixed, two, (((1, 1), 0),), (((1, 1), 1),), (1, 1))


class Runs(Case):
    def test_standings_and_moments(self):
        for machine, run in pairs(82, 200):
            rooms = [0] + [machine.doors[door][3] for wait, door in run]
            rows = [[0] * machine.clocks] + [behind for ahead, behind in visited(machine, run)]
            self.same(standings(machine, run), tuple([(room, told(row)) for room, row in zip(rooms, rows)]))
            waits = [Fraction(*wait) for wait, door in run]
            wanted = tuple([pair(sum(waits[:at + 1], Fraction(0))) for at in range(len(run))])
            self.same((moments(run), time_of(run)), (wanted, wanted[-1] if wanted else (0, 1)))
            self.same(room_behind(machine, run), rooms[-1])

    def test_no_steps(self):
        self.same((standings(HOLDS, ()), moments(()), time_of(()), misses(HOLDS, ()), needed(HOLDS, ())),
                  (((0, ((0, 1), (0, 1))),), (), (0, 1), (), (0, 1)))
        self.same((goes(HOLDS, (), (0, 1)), run_fault(HOLDS, (), (0, 1)), room_behind(HOLDS, ()), part_of((), 0)),
                  (True, None, 0, ()))
        self.same(mixed(HOLDS, (), (), (1, 2)), ())

    def test_misses(self):
        for machine, run in pairs(83, 200):
            found = misses(machine, run)
            self.same(found, tuple([{word: told(row[word]) for word in WORDS} for row in missed(machine, run)]))
            self.same([list(row) for row in found], [list(WORDS)] * len(run))

    def test_a_told_dict_can_be_changed(self):
        first = misses(M, RUN)
        first[0]["stay"] = None
        self.same(misses(M, RUN)[0]["stay"], ((0, 1),))

    def test_needed(self):
        for machine, run in pairs(84, 200):
            greatest = max([Fraction(0)] + all_missed(machine, run))
            self.same(needed(machine, run), pair(greatest))
            for margin in (Fraction(0), greatest, greatest + Fraction(1, 10 ** 20), greatest * Fraction(99, 100)):
                self.same(goes(machine, run, pair(margin)), greatest <= margin)
            ahead = [needed(machine, part_of(run, many)) for many in range(len(run) + 1)]
            self.assertEqual(sorted(ahead, key=lambda one: Fraction(*one)), ahead)

    def test_needed_by_waits_with_long_bottoms(self):
        """Waits that can be counted by one bottom, and such that cannot, also in one run."""
        chosen = random.Random(87)
        for machine, run in pairs(88, 120, 9):
            for bottoms in ((1, 7, 12), (10 ** 30, 10 ** 30 + 1), (MOST, MOST - 1, 1), (10 ** 59, 2, 3)):
                waits = [Fraction(*wait) + Fraction(chosen.randrange(-2, 3), chosen.choice(bottoms)) for wait, door in run]
                other = tuple([(pair(max(wait, Fraction(0))), step[1]) for wait, step in zip(waits, run)])
                if is_run(machine, other):
                    greatest = max([Fraction(0)] + all_missed(machine, other))
                    self.same(needed(machine, other), pair(greatest))
                    self.same((goes(machine, other, (1, 3)), goes(machine, other, (0, 1))), (greatest <= Fraction(1, 3), greatest == 0))

    def test_needed_by_long_runs(self):
        one = Machine(1, ((4,),), ((0, ((0, 4),), (), 0),))
        still = (((0, 1), 0),) * 20000
        self.same([needed(one, still), needed(one, still[1:] + (((9, 2), 0),)), needed(one, (((1, 100), 0),) * 20000)],
                  [(0, 1), (1, 2), (196, 1)])
        chosen = random.Random(89)
        doors = ((0, ((0, 4), (0, 4)), (0, 1), 0), (0, ((1, 2), (0, 4)), (0,), 0), (0, ((0, 4), (2, 3)), (1,), 0))
        machine = Machine(2, ((4, 4),), doors)
        for bottoms in ((1, 2, 3), (1,), (97, 89, 83, 79, 10 ** 20 + 39, 10 ** 20 + 129, 10 ** 20 + 151)):
            run = tuple([(pair(Fraction(chosen.randrange(2 * bottom + 1), bottom)), chosen.randrange(3))
                         for bottom in [chosen.choice(bottoms) for _ in range(800)]])
            self.same(needed(machine, run), pair(max(all_missed(machine, run))))

    def test_the_first_fault(self):
        for machine, run in pairs(85, 200):
            rows = missed(machine, run)
            margins = {Fraction(0), Fraction(1, 3)} | set(map(Fraction, all_missed(machine, run)))
            for margin in margins:
                faults = [(index, word, clock) for index, row in enumerate(rows) for word in WORDS
                          for clock in range(machine.clocks) if row[word][clock] > margin]
                self.same(run_fault(machine, run, pair(margin)), faults[0] if faults else None)
                self.same(goes(machine, run, pair(margin)), not faults)

    def test_equality_keeps_bounds(self):
        run = (((2, 1), 0), ((3, 1), 1))
        self.same((needed(M, run), goes(M, run[:1], (0, 1))), ((1, 1), True))
        self.same(run_fault(M, run, (0, 1)), (1, "enter", 0))
        self.same(run_fault(M, (((1, 1), 0),), (0, 1)), None)
        self.same(run_fault(M, (((10 ** 59 - 1, 10 ** 59), 0),), (0, 1)), (0, "low", 0))
        self.same(needed(M, (((10 ** 59 - 1, 10 ** 59), 0),)), (1, 10 ** 59))
        self.same(needed(M, (((2 * 10 ** 59 + 1, 10 ** 59), 0),)), (1, 10 ** 59))

    def test_the_wait_is_looked_at_ahead_of_the_resets(self):
        machine = Machine(2, ((1, 2), (0, 4)), ((0, ((0, 4), (0, 4)), (0,), 1),))
        run = (((3, 1), 0),)
        self.same(misses(machine, run), ({"stay": ((2, 1), (1, 1)), "low": ((0, 1), (0, 1)), "high": ((0, 1), (0, 1)),
                                          "enter": ((0, 1), (0, 1))},))
        self.same(run_fault(machine, run, (1, 1)), (0, "stay", 0))
        self.same(run_fault(machine, run, (2, 1)), None)

    def test_longer_waits_can_need_less(self):
        self.same([needed(M, (((wait, 1), 0),)) for wait in range(4)], [(1, 1), (0, 1), (0, 1), (1, 1)])

    def test_as_many_steps_as_are_let(self):
        run = (((1, 2), 0),) * 20000
        self.same((time_of(run), len(standings(LOOP, run)), needed(LOOP, run)), ((10000, 1), 20001, (0, 1)))
        self.same(len(misses(LOOP, run)), 20000)
        self.same(mixed(LOOP, run, run, (1, 3)) == run, True)
        self.same(part_of(run, 20000) == run, True)
        self.refused(InvalidRun, needed, LOOP, run + run[:1])
        self.refused(InvalidRun, time_of, run + run[:1])

    def test_parts(self):
        for machine, run in pairs(86, 40):
            for many in range(len(run) + 1):
                self.same(part_of(run, many), run[:many])
        # Doors that do not follow one another can be parts all the same: no machine is told.
        self.same(part_of(RUN[::-1], 1), RUN[1:])

    def test_results_can_be_long(self):
        run = (((1, MOST), 0), ((1, MOST - 1), 1))
        total = Fraction(1, MOST) + Fraction(1, MOST - 1)
        self.same(moments(run)[1], pair(total))
        self.same(needed(M, run), pair(3 - Fraction(1, MOST - 1)))


class Mixed(Case):
    def test_mixed(self):
        chosen = random.Random(87)
        for machine, one in pairs(88, 150):
            other = tuple([(pair(Fraction(chosen.randrange(20), chosen.choice((1, 2, 7)))), door) for wait, door in one])
            for weight in (Fraction(0), Fraction(1), Fraction(1, 2), Fraction(2, 7)):
                found = mixed(machine, one, other, pair(weight))
                wanted = [weight * Fraction(*step[0]) + (1 - weight) * Fraction(*more[0])
                          for step, more in zip(one, other)]
                self.same(found, tuple([(pair(wait), step[1]) for wait, step in zip(wanted, one)]))
                self.same(is_run(machine, found), True)
                self.mixed_so(weight, moments(one), moments(other), moments(found))
                for first, last, both in zip(standings(machine, one), standings(machine, other),
                                             standings(machine, found)):
                    self.mixed_so(weight, first[1], last[1], both[1])
                self.at_most(weight, all_missed(machine, one), all_missed(machine, other), all_missed(machine, found))
                self.at_most(weight, [Fraction(*needed(machine, one))], [Fraction(*needed(machine, other))],
                             [Fraction(*needed(machine, found))])

    def mixed_so(self, weight, one, other, both):
        for first, last, middle in zip(one, other, both):
            self.assertEqual(weight * Fraction(*first) + (1 - weight) * Fraction(*last), Fraction(*middle))

    def at_most(self, weight, one, other, both):
        for first, last, middle in zip(one, other, both):
            self.assertLessEqual(middle, weight * first + (1 - weight) * last)

    def test_ends(self):
        other = (((1, 1), 0), ((3, 1), 1))
        self.same((mixed(M, RUN, other, (1, 1)), mixed(M, RUN, other, (0, 1))), (RUN, other))

    def test_mixed_runs_can_be_long(self):
        one, other = (((1, MOST), 0),), (((1, MOST - 1), 0),)
        found = mixed(M, one, other, (1, 2))
        self.same(found[0][0], pair((Fraction(1, MOST) + Fraction(1, MOST - 1)) / 2))
        self.same(is_run(M, found), False)
        self.refused(InvalidRun, needed, M, found)

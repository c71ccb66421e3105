"""Stage 9: machines side by side, and stays that are split and joined."""
import random
from fractions import Fraction
from itertools import product

from anymargin import errors
from anymargin.errors import InvalidMachine, InvalidNumber, InvalidOperation, InvalidRun, Refused, TooMany
from anymargin.machine import nets as module
from anymargin.machine.machines import Machine, is_loose, loose_round
from anymargin.machine.nets import (
    Net, is_joined, is_stay, joined, joint_fault, split, stay_length, stay_needed)
from anymargin.machine.runs import is_run, moments, needed, standings
from tests.support import (
    EVERYTHING, HOLDS, LONG, MACHINE, MOST, NO_FRACTIONS, NO_INTEGERS, NO_TUPLES, Case, is_tight, pair, random_machine,
    random_run)
from tests.test_runs import NO_MACHINES, NO_RUNS, M, RUN

EXAMPLES = """
>>> LAMP = Machine(1, ((2,), (2,)), ((0, ((1, 2),), (0,), 1), (1, ((1, 1),), (0,), 0)))
>>> BELL = Machine(1, ((4,),), ((0, ((3, 4),), (0,), 0),))
>>> NET = Net(LAMP, BELL, ())
>>> [NET.machine.limits, NET.machine.doors[2:], NET.sides(3), str(NET), NET.pair(1)]
[((2, 4), (2, 4)), ((0, ((0, 4), (3, 4)), (1,), 0), (1, ((0, 4), (3, 4)), (1,), 1)), (None, 0), 'net of 2 and 1 rooms, 0 shared', (1, 0)]
>>> STAY = ((((1, 1), 0), ((1, 1), 1), ((1, 1), 2)), (3, 2))
>>> [split(NET, STAY), stay_needed(NET.machine, STAY), stay_length(NET.machine, STAY)]
[(((((1, 1), 0), ((1, 1), 1)), (5, 2)), ((((3, 1), 0),), (3, 2))), (1, 2), (9, 2)]
"""

LAMP = Machine(1, ((2,), (2,)), ((0, ((1, 2),), (0,), 1), (1, ((1, 1),), (0,), 0)))
BELL = Machine(1, ((4,),), ((0, ((3, 4),), (0,), 0),))
APART = Net(LAMP, BELL, ())
SHARED = Net(LAMP, BELL, ((1, 0),))


def random_nets(seed, many):
    """Nets of small machines, with some shared doors."""
    chosen = random.Random(seed)
    found = []
    while len(found) < many:
        clocks = chosen.choice(((1, 1), (1, 2), (2, 1)))
        rooms = chosen.choice(((1, 1), (2, 1), (1, 3), (2, 2), (3, 2), (2, 3)))
        one, other = [random_machine(chosen, clocks[at], rooms[at], chosen.randrange(4)) for at in (0, 1)]
        pairs = list(product(range(len(one.doors)), range(len(other.doors))))
        shared = tuple(sorted(chosen.sample(pairs, chosen.randrange(min(3, len(pairs)) + 1))))
        try:
            found.append(Net(one, other, shared))
        except TooMany:
            continue
    return found


NETS = random_nets(90, 150)


def net_doors(one, other, shared):
    """The doors of a net, as the document tells them, each with its sides."""
    both = []
    still = ((0, 4),)
    for i, (room, guards, resets, goal) in enumerate(one.doors):
        if i not in [pair[0] for pair in shared]:
            for b in range(other.rooms):
                both.append(((i, None), (room * other.rooms + b, guards + still * other.clocks, resets,
                                         goal * other.rooms + b)))
    for j, (room, guards, resets, goal) in enumerate(other.doors):
        far = tuple([clock + one.clocks for clock in resets])
        if j not in [pair[1] for pair in shared]:
            for a in range(one.rooms):
                both.append(((None, j), (a * other.rooms + room, still * one.clocks + guards, far,
                                         a * other.rooms + goal)))
    for i, j in shared:
        first, last = one.doors[i], other.doors[j]
        far = tuple([clock + one.clocks for clock in last[2]])
        both.append(((i, j), (first[0] * other.rooms + last[0], first[1] + last[1], first[2] + far,
                              first[3] * other.rooms + last[3])))
    return both


def random_stay(chosen, machine, most):
    return (random_run(chosen, machine, most), pair(Fraction(chosen.randrange(9), chosen.choice((1, 2)))))


class Nets(Case):
    def test_examples(self):
        names = dict(vars(module), Machine=Machine)
        self.examples(EXAMPLES, names, vars(errors))

    def test_machines_of_nets(self):
        self.assertGreater(len([net for net in NETS if net.shared]), 30)
        for net in NETS:
            one, other = net.one, net.other
            both = net_doors(one, other, net.shared)
            limits = tuple([first + last for first in one.limits for last in other.limits])
            wanted = Machine(one.clocks + other.clocks, limits, tuple([door for sides, door in both]))
            self.same(net.machine == wanted, True)
            self.same((net.machine.clocks, net.machine.limits, net.machine.doors),
                      (wanted.clocks, wanted.limits, wanted.doors))
            self.same([net.sides(door) for door in range(len(both))], [sides for sides, door in both])

    def test_rooms(self):
        for net in NETS[:60]:
            one, other = net.one.rooms, net.other.rooms
            pairs = [(a, b) for a in range(one) for b in range(other)]
            self.same([net.room(a, b) for a, b in pairs], list(range(one * other)))
            self.same([net.pair(room) for room in range(one * other)], pairs)

    def test_what_is_kept(self):
        self.same((APART.one == LAMP, APART.other == BELL, APART.shared, SHARED.shared), (True, True, (), ((1, 0),)))
        self.same(str(SHARED), "net of 2 and 1 rooms, 1 shared")
        for word in ("one", "other", "shared", "machine"):
            with self.assertRaises(AttributeError):
                setattr(APART, word, 1)
        with self.assertRaises(TypeError):
            iter(APART)

    def test_equal_nets(self):
        self.same([APART == Net(LAMP, BELL, ()), APART != Net(LAMP, BELL, ())], [True, False])
        self.same([SHARED == Net(Machine(1, LAMP.limits, LAMP.doors), BELL, ((1, 0),))], [True])
        for other in (SHARED, Net(BELL, LAMP, ()), Net(LAMP, LAMP, ()), Net(BELL, BELL, ()), APART.machine):
            self.same([APART == other, APART != other], [False, True])
        for value in EVERYTHING:
            self.same([APART == value, APART != value, value == APART], [False, True, False])

    def test_indices(self):
        for a, b in ((0, 0), (1, 0)):
            self.same(APART.pair(APART.room(a, b)), (a, b))
        self.all_refused(InvalidNumber, lambda a: APART.room(a, "b"), NO_INTEGERS + (2, -1), "given")
        self.all_refused(InvalidNumber, lambda b: APART.room(1, b), NO_INTEGERS + (1, -1), "given")
        self.all_refused(InvalidNumber, APART.pair, NO_INTEGERS + (2, -1), "given")
        self.all_refused(InvalidNumber, APART.sides, NO_INTEGERS + (4, -1), "given")

    def test_wrong_arguments(self):
        self.all_refused(InvalidMachine, lambda one: Net(one, 0, 0), NO_MACHINES)
        self.all_refused(InvalidMachine, lambda one: Net(one, BELL, ()), NO_MACHINES)
        self.all_refused(InvalidMachine, lambda other: Net(LAMP, other, 0), NO_MACHINES)
        wrong = NO_TUPLES + (((0,),), ((0, 0, 0),), ((2, 0),), ((0, 1),), ((-1, 0),), ((0, -1),), ((True, 0),),
                             ((0, False),), ((0, None),), (("0", 0),), ((0, LONG),), ([0, 0],), [(0, 0)], (0, 0),
                             ((1, 0), (0, 0)), ((0, 0), (0, 0)), ((0, 0), (1,)), ((0, 0), 5), (((0,), 0),))
        self.all_refused(InvalidOperation, lambda shared: Net(LAMP, BELL, shared), wrong)
        self.refused(InvalidOperation, Net, HOLDS, HOLDS, 0)
        self.refused(InvalidOperation, Net, MACHINE, MACHINE, ((0, 0),))

    def test_too_many(self):
        door = (0, ((0, 4),), (), 0)
        rooms = [Machine(1, ((4,),) * many, ()) for many in range(1, 7)]
        doors = [Machine(1, ((4,),), (door,) * many) for many in range(13)]
        self.refused(TooMany, Net, HOLDS, HOLDS, (), limit=3)
        self.refused(TooMany, Net, Machine(3, ((4, 4, 4),) * 6, ()), rooms[1], (), limit=3)
        self.refused(TooMany, Net, rooms[2], rooms[2], (), limit=6)
        self.refused(TooMany, Net, Machine(1, ((4,),) * 6, (door,) * 7), rooms[1], (), limit=6)
        self.refused(TooMany, Net, doors[12], doors[1], (), limit=12)
        self.refused(TooMany, Net, doors[4], doors[4], tuple(product(range(4), repeat=2)), limit=12)
        self.refused(TooMany, Net, Machine(1, ((4,),), (door,) * 7), rooms[1], (), limit=12)
        self.same([Net(rooms[5], rooms[0], ()).machine.rooms, Net(rooms[1], rooms[2], ()).machine.rooms], [6, 6])
        self.same(len(Net(doors[12], doors[0], ()).machine.doors), 12)
        self.same(len(Net(doors[3], doors[4], tuple(product(range(3), range(4)))).machine.doors), 12)
        self.same(Net(HOLDS, MACHINE, ()).machine.clocks, 3)

    def test_a_round_of_one_side_makes_a_net_loose(self):
        self.same([is_tight(LAMP), is_tight(BELL), loose_round(APART.machine) is None], [True, True, False])
        self.same(is_loose(APART.machine, ((0, 1), 1)), True)
        for net in NETS:
            alone = [i for i in range(len(net.one.doors)) if i not in [pair[0] for pair in net.shared]]
            doors = tuple([net.one.doors[i] for i in alone])
            # A machine with a clock that no door puts back has a loose round exactly if its doors go round.
            bare = Machine(1, ((4,),) * net.one.rooms, tuple([(door[0], ((0, 4),), (), door[3]) for door in doors]))
            if not is_tight(bare):
                self.same(loose_round(net.machine) is None, False)

    def test_a_room_is_not_come_to_if_both_are(self):
        """One side comes to its room at 1, the other one to its own at 2: but 1 is where it has to leave."""
        one = Machine(1, ((1,), (0,)), ((0, ((1, 1),), (0,), 1),))
        other = Machine(1, ((2,), (2,)), ((0, ((2, 2),), (0,), 1),))
        net = Net(one, other, ())
        for doors in product(range(len(net.machine.doors)), repeat=2):
            for waits in product(range(3), repeat=2):
                run = tuple([((wait, 1), door) for wait, door in zip(waits, doors)])
                if is_run(net.machine, run) and standings(net.machine, run)[-1][0] == net.room(1, 1):
                    self.assertNotEqual(needed(net.machine, run), (0, 1))


class Stays(Case):
    def test_is_stay(self):
        right = [((), (0, 1)), (RUN, (1, 2)), (RUN[:1], (MOST, 1))]
        wrong = [(run, (0, 1)) for run in NO_RUNS] + [(RUN, rest) for rest in NO_FRACTIONS + ((-1, 2),)]
        wrong += [(), (RUN,), (RUN, (0, 1), 0), [RUN, (0, 1)], ((0, 1), RUN), RUN, ((RUN, (0, 1)),)]
        self.judged(lambda value: is_stay(M, value), right, wrong)
        self.all_refused(InvalidMachine, lambda machine: is_stay(machine, 0), NO_MACHINES)

    def test_lengths_and_margins(self):
        chosen = random.Random(91)
        for at in range(150):
            machine = random_machine(chosen, at % 3 + 1, 2, 4)
            run, rest = stay = random_stay(chosen, machine, 5)
            self.same(stay_length(machine, stay), pair(sum([Fraction(*wait) for wait, door in run], Fraction(*rest))))
            room, readings = standings(machine, run)[-1]
            ends = [Fraction(*reading) + Fraction(*rest) - limit
                    for reading, limit in zip(readings, machine.limits[room])]
            self.same(stay_needed(machine, stay), pair(max([Fraction(*needed(machine, run))] + ends)))

    def test_the_rest_counts(self):
        self.same([stay_needed(M, ((), rest)) for rest in ((0, 1), (2, 1), (7, 3))], [(0, 1), (0, 1), (1, 3)])
        self.same(stay_length(M, ((), (0, 1))), (0, 1))

    def test_wrong_arguments(self):
        wrong = EVERYTHING + (RUN, (RUN,), (RUN, (-1, 2)), (RUN[1:], (0, 1)), [RUN, (0, 1)])
        for call in (stay_length, stay_needed):
            self.all_refused(InvalidMachine, lambda machine: call(machine, 0), NO_MACHINES)
            self.all_refused(InvalidRun, lambda stay: call(M, stay), wrong)


class Split(Case):
    def stays(self, seed, most=6):
        chosen = random.Random(seed)
        for net in NETS:
            for _ in range(4):
                yield net, random_stay(chosen, net.machine, most)

    def test_split(self):
        for net, stay in self.stays(92):
            both = split(net, stay)
            run, rest = stay
            for side, (machine, part) in enumerate(zip((net.one, net.other), both)):
                self.same(is_stay(machine, part), True)
                self.same(stay_length(machine, part), stay_length(net.machine, stay))
                own = [(moment, net.sides(door)[side]) for moment, (wait, door) in zip(moments(run), run)
                       if net.sides(door)[side] is not None]
                self.same(list(zip(moments(part[0]), [door for wait, door in part[0]])), own)
            margins = [Fraction(*stay_needed(machine, part)) for machine, part in zip((net.one, net.other), both)]
            self.same(stay_needed(net.machine, stay), pair(max(margins)))

    def test_split_and_joined(self):
        for net, stay in self.stays(93):
            first, last = split(net, stay)
            self.same(joint_fault(net, first, last), None)
            self.same(is_joined(net, first, last, stay), True)
            found = joined(net, first, last)
            self.same((split(net, found), is_joined(net, first, last, found)), ((first, last), True))
            self.same(stay_needed(net.machine, found), stay_needed(net.machine, stay))
            for other in ((stay[0], pair(Fraction(*stay[1]) + 1)), (stay[0][:-1], stay[1])):
                if other != stay:
                    self.same(is_joined(net, first, last, other), False)

    def test_some_pairs_can_be_joined_and_others_not(self):
        chosen = random.Random(94)
        counts = {}
        for net in NETS:
            for _ in range(12):
                first, last = random_stay(chosen, net.one, 3), random_stay(chosen, net.other, 3)
                if chosen.randrange(4):
                    short = sum([Fraction(*wait) for wait, door in first[0]], Fraction(*first[1]))
                    short -= sum([Fraction(*wait) for wait, door in last[0]], Fraction(0))
                    last = (last[0], pair(max(short, Fraction(0))))
                fault = joint_fault(net, first, last)
                self.same(fault, self.fault(net, first, last))
                counts[fault[0] if fault else None] = counts.get(fault[0] if fault else None, 0) + 1
                if fault is None:
                    found = joined(net, first, last)
                    self.same(split(net, found), (first, last))
                else:
                    self.refused(Refused, joined, net, first, last, reason=fault)
                    self.same(is_joined(net, first, last, ((), (0, 1))), False)
        self.assertGreater(min(counts.values()), 20)
        self.assertEqual(set(counts), {None, "length", "shared"})

    def fault(self, net, first, last):
        """The fault, found door by door."""
        if stay_length(net.one, first) != stay_length(net.other, last):
            return ("length",)
        rows = []
        for side, (run, rest) in enumerate((first, last)):
            named = {pair[side] for pair in net.shared}
            rows.append([(moment, door) for moment, (wait, door) in zip(moments(run), run) if door in named])
        for k in range(max(map(len, rows))):
            if k >= min(map(len, rows)) or rows[0][k][0] != rows[1][k][0]:
                return ("shared", k)
            if (rows[0][k][1], rows[1][k][1]) not in net.shared:
                return ("shared", k)
        return None

    def test_faults(self):
        first, last = (((1, 1), 0), ((1, 1), 1)), (((2, 1), 0),)
        self.same(joint_fault(SHARED, (first, (0, 1)), (last, (0, 1))), None)
        self.same(joint_fault(SHARED, (first, (0, 1)), (last, (1, 1))), ("length",))
        self.same(joint_fault(SHARED, (first[:1], (1, 1)), (last, (0, 1))), ("shared", 0))
        self.same(joint_fault(SHARED, (first, (0, 1)), ((), (2, 1))), ("shared", 0))
        self.same(joint_fault(SHARED, (first, (1, 1)), ((((3, 1), 0),), (0, 1))), ("shared", 0))
        self.same(joint_fault(SHARED, (first * 2, (0, 1)), (last, (2, 1))), ("shared", 1))
        self.same(joint_fault(APART, (first, (1, 1)), ((((3, 1), 0),), (0, 1))), None)
        two = Net(LAMP, Machine(1, ((4,),), BELL.doors * 2), ((0, 0), (1, 1)))
        self.same(joint_fault(two, (first, (0, 1)), ((((1, 1), 0), ((1, 1), 1)), (0, 1))), None)
        self.same(joint_fault(two, (first, (0, 1)), ((((1, 1), 0), ((1, 1), 0)), (0, 1))), ("shared", 1))
        self.same(joint_fault(two, (first, (0, 1)), ((((1, 1), 1), ((1, 1), 0)), (0, 1))), ("shared", 0))

    def test_doors_at_one_moment(self):
        """At one moment the doors of both sides can be gone through in any sequence that both have."""
        first, last = ((((1, 1), 0), ((0, 1), 1)), (0, 1)), ((((1, 1), 0),), (0, 1))
        stays = []
        for doors in ((0, 1, 2), (0, 3, 1), (2, 0, 1)):
            stays.append((tuple([((1 if at == 0 else 0, 1), door) for at, door in enumerate(doors)]), (0, 1)))
            self.same(is_joined(APART, first, last, stays[-1]), True)
            self.same(split(APART, stays[-1]), (first, last))
        self.assertIn(joined(APART, first, last), stays)
        for stay in (((((1, 1), 0), ((0, 1), 2), ((0, 1), 1)), (0, 1)), (stays[0][0][:2], (0, 1)), (stays[0][0], (1, 1))):
            self.same(is_joined(APART, first, last, stay), False)

    def test_judged_values(self):
        first, last = ((((1, 1), 0), ((1, 1), 1)), (0, 1)), ((((2, 1), 0),), (0, 1))
        found = joined(SHARED, first, last)
        self.same(found, ((((1, 1), 0), ((1, 1), 1)), (0, 1)))
        wrong = [(found[0], (False, 1)), (found[0], (0, True)), ((((1, 1), False), found[0][1]), (0, 1)), list(found),
                 (list(found[0]), (0, 1)), first, last, (found[0], (0, 2)), (((True, 1), 0), found[0][1])]
        self.judged(lambda value: is_joined(SHARED, first, last, value), [found], [
            value for value in wrong if repr(value) != repr(found)])

    def test_too_many_doors(self):
        loops = [Machine(1, ((4,),), ((0, ((0, 4),), (0,), 0),) * 2) for _ in range(2)]
        net = Net(loops[0], loops[1], ((0, 0),))
        alone, both = ((0, 1), 1), ((0, 1), 0)
        many = joined(net, ((alone,) * 10000, (0, 1)), ((alone,) * 10000, (0, 1)))
        self.same(len(many[0]), 20000)
        self.refused(TooMany, joined, net, ((alone,) * 10000, (0, 1)), ((alone,) * 10001, (0, 1)), limit=20000)
        self.same(len(joined(net, ((both,) * 20000, (0, 1)), ((both,) * 20000, (0, 1)))[0]), 20000)
        self.refused(Refused, joined, net, ((alone,) * 20000, (0, 1)), ((alone,) * 20000, (1, 1)), reason=("length",))

    def test_wrong_arguments(self):
        stay = ((), (0, 1))
        nets = tuple([value for value in EVERYTHING if not isinstance(value, Net)])
        wrong = EVERYTHING + (((((1, 1), 1),), (0, 1)), ((), (-1, 1)), [(), (0, 1)])
        self.all_refused(InvalidOperation, lambda net: split(net, 0), nets)
        self.all_refused(InvalidRun, lambda value: split(SHARED, value), wrong)
        for call in (joint_fault, joined, lambda net, first, last: is_joined(net, first, last, 0)):
            self.all_refused(InvalidOperation, lambda net: call(net, 0, 0), nets)
            self.all_refused(InvalidRun, lambda first: call(SHARED, first, 0), wrong)
            self.all_refused(InvalidRun, lambda first: call(SHARED, first, stay), wrong)
            self.all_refused(InvalidRun, lambda last: call(SHARED, stay, last), wrong)
            # A stay of one is not always a stay of other.
            self.refused(InvalidRun, call, SHARED, stay, ((((1, 1), 1),), (0, 1)))

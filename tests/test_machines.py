"""Stage 7: machines, their faults, loose rounds and falls."""
import random
from itertools import product

from anymargin import errors
from anymargin.errors import InvalidMachine, InvalidNumber, InvalidOperation, TooMany
from anymargin.machine import machines as module
from anymargin.machine.machines import (
    Machine, falls, is_door, is_falls, is_guards, is_loose, loose_round, machine_fault, with_door, with_limits,
    without_doors)
from tests.support import (
    EVERYTHING, LONG, MACHINE, MOST, NO_INTEGERS, NO_TUPLES, Case, is_tight, random_machine)

EXAMPLES = """
>>> M = Machine(1, ((2,), (1,)), ((0, ((1, 2),), (0,), 1), (1, ((0, 1),), (), 0)))
>>> [str(M), M.doors_from(1), loose_round(M), is_falls(M, ((0, 1),)), is_falls(M, ((0, 0),))]
['machine of 1 clocks, 2 rooms, 2 doors', (1,), None, True, False]
>>> L = with_door(M, (0, ((0, 2),), (), 0))
>>> [is_loose(L, loose_round(L)), is_loose(L, ((2, 2), 0)), is_loose(L, ((0, 1), 0)), falls(L), without_doors(L, (2,)) == M]
[True, True, False, None, True]
>>> [machine_fault(1, ((2,), (5,)), ()), machine_fault(1, ((2,),), ((0, ((2, 1),), (), 0),)), machine_fault(True, 0, 0)]
[('limits', 1), ('door', 0), ('clocks',)]
>>> Machine(1, (), ())
raises InvalidMachine
"""

# The values that the document's examples use.
SHARED = """
>>> HOLDS = Machine(2, ((4, 4), (4, 4)), ((0, ((1, 1), (0, 4)), (0, 1), 0), (0, ((0, 0), (2, 2)), (), 1)))
>>> BASE = Machine(2, ((3, 3),) * 4, ((0, ((1, 1), (0, 4)), (1,), 1), (1, ((0, 2), (0, 4)), (0,), 2), (2, ((0, 4), (2, 4)), (1,), 1), (2, ((0, 0), (2, 4)), (), 3)))
>>> [str(HOLDS), str(BASE), loose_round(HOLDS), loose_round(BASE), is_falls(BASE, falls(BASE)), is_falls(HOLDS, falls(HOLDS))]
['machine of 2 clocks, 2 rooms, 2 doors', 'machine of 2 clocks, 4 rooms, 4 doors', None, None, True, True]
"""

DOOR = (0, ((0, 4), (1, 2)), (0, 1), 1)
M = Machine(1, ((2,), (1,)), ((0, ((1, 2),), (0,), 1), (1, ((0, 1),), (), 0)))
TWO = Machine(2, ((4, 4), (0, 0)), (DOOR,))

# Members that are no guard of one clock.
NO_GUARDS = NO_TUPLES + ((), (0,), (0, 1, 2), (2, 1), (0, 5), (-1, 4), (5, 5), (True, 4), (0, True), (False, 1), ("0", 1),
                         (0, None), [0, 4], (0, LONG), (-LONG, 0), ((0,), 4), (0.5, 1))

# Values that are no limits for two clocks.
NO_LIMITS = NO_TUPLES + ((), (1,), (1, 2, 3), (1, 5), (-1, 1), (True, 1), (1, False), (None, 1), ("1", 1), ([1], 1),
                         ((1,), 1), (LONG, 1), [1, 1], (0.5, 1))

GOOD = ((0, 4), (1, 2))

# Values that are no doors with two clocks and two rooms.
NO_DOORS = NO_TUPLES + (
    (), DOOR[:3], DOOR + (0,), list(DOOR), (2, GOOD, (), 0), (-1, GOOD, (), 0), (True, GOOD, (), 0), (0, GOOD, (), True),
    (0, GOOD, (), 2), (0, GOOD, (), -1), (0, GOOD, (), None), (None, GOOD, (), 0), ("0", GOOD, (), 0), (0, (), (), 0),
    (0, GOOD[:1], (), 0), (0, GOOD + GOOD[:1], (), 0), (0, list(GOOD), (), 0), (0, GOOD, [], 0), (0, GOOD, (2,), 0),
    (0, GOOD, (1, 0), 0), (0, GOOD, (0, 0), 0), (0, GOOD, (True,), 0), (0, GOOD, (False, 1), 0), (0, GOOD, (-1,), 0),
    (0, GOOD, None, 0), (0, GOOD, 0, 0), (0, GOOD, ("0",), 0), (LONG, GOOD, (), 0), (0, GOOD, (), LONG)
) + tuple([(0, ((0, 4), wrong), (), 0) for wrong in NO_GUARDS])

LOTS = {1: [(), (0,)], 2: [(), (0,), (1,), (0, 1)], 3: [(), (0,), (2,), (0, 1), (1, 2), (0, 1, 2)]}


def random_machines():
    chosen = random.Random(7)
    found = []
    for _ in range(400):
        clocks, rooms = chosen.choice((1, 2, 3)), chosen.choice((1, 2, 3, 6))
        doors = [(chosen.randrange(rooms), ((0, 4),) * clocks, chosen.choice(LOTS[clocks]), chosen.randrange(rooms))
                 for _ in range(chosen.randrange(13))]
        found.append(Machine(clocks, ((4,) * clocks,) * rooms, tuple(doors)))
    return found


MACHINES = random_machines()


def goes_round(machine, clock):
    """Whether doors that do not put the clock back lead from some room back to it."""
    pairs = {(door[0], door[3]) for door in machine.doors if clock not in door[2]}
    while True:
        more = pairs | {(a, d) for a, b in pairs for c, d in pairs if b == c}
        if more == pairs:
            return bool([1 for a, b in pairs if a == b])
        pairs = more


class Forms(Case):
    def test_examples(self):
        self.examples(EXAMPLES, vars(module).copy(), vars(errors))
        self.examples(SHARED, vars(module).copy(), vars(errors))

    def test_constants(self):
        self.same((module.MOST_CLOCKS, module.MOST_ROOMS, module.MOST_DOORS, module.MOST_NUMBER), (3, 6, 12, 4))

    def test_is_guards(self):
        right = [((low, high),) for low in range(5) for high in range(low, 5)]
        self.judged(lambda value: is_guards(1, value), right, [(wrong,) for wrong in NO_GUARDS] + [(0, 4), (), [(0, 4)]])
        right = [(one[0], other[0]) for one in right[::3] for other in right[::4]]
        wrong = [((0, 4), guard) for guard in NO_GUARDS] + [(guard, (0, 4)) for guard in NO_GUARDS]
        self.judged(lambda value: is_guards(2, value), right, wrong + [((0, 4),), ((0, 4),) * 3, [(0, 4), (0, 4)]])
        self.judged(lambda value: is_guards(3, value), [((0, 0), (4, 4), (1, 3))], right)
        self.all_refused(InvalidNumber, lambda clocks: is_guards(clocks, 0), NO_INTEGERS + (0, 4, -1), "given")

    def test_is_door(self):
        right = [DOOR, (0, GOOD, (), 0), (1, GOOD, (0,), 1), (1, ((0, 0), (4, 4)), (1,), 0)]
        self.judged(lambda value: is_door(2, 2, value), right, NO_DOORS)
        self.judged(lambda value: is_door(2, 1, value), right[1:2], [right[0], right[2]])
        self.judged(lambda value: is_door(1, 6, value), [(5, ((0, 4),), (), 5)], right + [(6, ((0, 4),), (), 5)])
        self.all_refused(InvalidNumber, lambda clocks: is_door(clocks, 99, 0), NO_INTEGERS + (0, 4, -1), "given")
        self.all_refused(InvalidNumber, lambda rooms: is_door(3, rooms, 0), NO_INTEGERS + (0, 7, -1), "given")

    def test_faults(self):
        for clocks in NO_INTEGERS + (0, 4, -1):
            self.same(machine_fault(clocks, 0, 0), ("clocks",))
        for limits in NO_TUPLES + ((), ((1,),) * 7):
            self.same(machine_fault(1, limits, 0), ("rooms",))
        for wrong in NO_LIMITS:
            self.same(machine_fault(2, (wrong,), 0), ("limits", 0))
            self.same(machine_fault(2, ((0, 4), wrong, 5), 0), ("limits", 1))
        for doors in NO_TUPLES + ((DOOR,) * 13,):
            self.same(machine_fault(2, ((4, 4),) * 2, doors), ("doors",))
        for wrong in NO_DOORS:
            self.same(machine_fault(2, ((4, 4),) * 2, (wrong,)), ("door", 0))
            self.same(machine_fault(2, ((4, 4),) * 2, (DOOR,) * 11 + (wrong,)), ("door", 11))

    def test_the_first_fault_counts(self):
        self.same(machine_fault(0, (), None), ("clocks",))
        self.same(machine_fault(2, ((1,),) * 7, None), ("rooms",))
        self.same(machine_fault(2, ((1, 1), (1,), (1, 5)), None), ("limits", 1))
        self.same(machine_fault(2, ((1, 1),), (0,) * 13), ("doors",))
        self.same(machine_fault(2, ((1, 1),) * 2, (DOOR, 0, 1)), ("door", 1))
        self.same(machine_fault(2, ((1, 1),), (DOOR,)), ("door", 0))

    def test_every_value_is_taken(self):
        for value in EVERYTHING:
            for given in ((value, ((4,),), ()), (1, value, ()), (1, ((4,),), value), (value, value, value)):
                fault = machine_fault(*given)
                self.assertTrue(fault is None or isinstance(fault, tuple))
                if fault is not None:
                    self.refused(InvalidMachine, Machine, *given)

    def test_machines_at_the_edges(self):
        doors = ((0, ((0, 4),), (0,), 0),) * 12
        for limits, given in ((((0,),), ()), (((4,),) * 6, doors), (((0,),), doors[:1])):
            self.same(machine_fault(1, limits, given), None)
            machine = Machine(1, limits, given)
            self.same((machine.clocks, machine.limits, machine.doors, machine.rooms), (1, limits, given, len(limits)))
        self.same(machine_fault(3, ((0, 4, 2),), ((0, ((0, 0), (4, 4), (1, 3)), (0, 1, 2), 0),)), None)

    def test_machines_are_refused(self):
        self.refused(InvalidMachine, Machine, 0, ((1,),), ())
        self.refused(InvalidMachine, Machine, 1, (), ())
        self.refused(InvalidMachine, Machine, 1, ((1, 1),), ())
        self.refused(InvalidMachine, Machine, 1, ((1,),), (0,))
        self.refused(InvalidMachine, Machine, 1, ((1,),), [])

    def test_nothing_changes(self):
        for word in ("clocks", "limits", "doors", "rooms"):
            with self.assertRaises(AttributeError):
                setattr(M, word, 1)

    def test_doors_from(self):
        for machine in MACHINES:
            for room in range(machine.rooms):
                wanted = tuple([at for at, door in enumerate(machine.doors) if door[0] == room])
                self.same(machine.doors_from(room), wanted)
        self.all_refused(InvalidNumber, M.doors_from, NO_INTEGERS + (2, -1), "given")

    def test_equal_machines(self):
        self.assertTrue(M == Machine(M.clocks, M.limits, M.doors))
        self.assertFalse(M != Machine(M.clocks, M.limits, M.doors))
        others = [Machine(1, ((2,), (2,)), M.doors), Machine(1, M.limits, M.doors[::-1]), Machine(1, M.limits, ()),
                  Machine(2, ((2, 2), (1, 1)), ()), MACHINE, TWO]
        for other in others + list(EVERYTHING):
            self.assertFalse(M == other)
            self.assertTrue(M != other)
            self.assertFalse(other == M)

    def test_strings(self):
        self.same(str(TWO), "machine of 2 clocks, 2 rooms, 1 doors")
        self.same(str(Machine(1, ((2,), (1,)), M.doors + M.doors[:1])), "machine of 1 clocks, 2 rooms, 3 doors")

    def test_iterating_is_refused(self):
        with self.assertRaises(TypeError):
            iter(M)
        with self.assertRaises(TypeError):
            0 in M


class Rounds(Case):
    def test_a_loose_round_or_falls(self):
        for machine in MACHINES + [M, TWO, MACHINE]:
            found, rows = loose_round(machine), falls(machine)
            loose = [clock for clock in range(machine.clocks) if goes_round(machine, clock)]
            self.same((found is None, rows is None), (not loose, bool(loose)))
            if loose:
                self.same(is_loose(machine, found), True)
                self.assertIn(found[1], loose)
            else:
                self.same(is_falls(machine, rows), True)

    def test_tightness_is_found_in_two_ways(self):
        chosen = random.Random(73)
        counts = {True: 0, False: 0}
        for _ in range(400):
            machine = random_machine(chosen, chosen.choice((1, 2, 3)), chosen.choice((1, 3, 6)), chosen.randrange(13))
            found = module.is_tight(machine)
            counts[found] += 1
            self.same((found, loose_round(machine) is None), (is_tight(machine), found))
        self.assertGreater(min(counts.values()), 50)

    def test_a_loose_round_has_no_falls(self):
        rows = list(product(range(3), repeat=2))
        for machine in [machine for machine in MACHINES if machine.rooms == 2 and machine.clocks < 3]:
            values = list(product(rows, repeat=machine.clocks))
            right = [value for value in values if is_falls(machine, value)]
            self.same(bool(right), loose_round(machine) is None)

    def test_is_loose_is_the_definition(self):
        for machine in [machine for machine in MACHINES if len(machine.doors) < 6][:60]:
            many = len(machine.doors)
            for length in range(4):
                for row in product(range(many), repeat=length):
                    doors = [machine.doors[at] for at in row]
                    leads = [door[3] == behind[0] for door, behind in zip(doors, doors[1:] + doors[:1])]
                    for clock in range(machine.clocks):
                        wanted = bool(row) and all(leads) and not [1 for door in doors if clock in door[2]]
                        self.same(is_loose(machine, (row, clock)), wanted)

    def test_loose_rounds_near_by(self):
        loose = Machine(2, ((4, 4), (4, 4)), ((0, GOOD, (1,), 1), (1, GOOD, (), 0), (1, GOOD, (0,), 0), (1, GOOD, (1,), 1)))
        right = [((0, 1), 0), ((1, 0), 0), ((3,), 0), ((3, 3, 3), 0), ((0, 3, 1), 0), ((0, 1) * 3000, 0)]
        wrong = [((0, 1), 1), ((0, 2), 0), ((0,), 0), ((1,), 0), ((), 0), ((), 1), ((0, 1), 2), ((0, 1), -1),
                 ((0, 1), False), ((False, 1), 0), ((0, True), 0), ([0, 1], 0), [(0, 1), 0], ((0, 1),), ((0, 1), 0, 0),
                 ((4,), 0), ((-1,), 0), ((0, 1), "0"), (("0", 1), 0), ((0, 1), None), ((3, 0), 0), ((3,), (0,)), (3, 0),
                 ((0, LONG), 0), (((3,),), 0), (0, (0, 1))]
        self.judged(lambda value: is_loose(loose, value), right, wrong)
        self.judged(lambda value: is_loose(MACHINE, value), [], right + wrong)

    def test_a_door_to_its_own_room(self):
        machine = Machine(1, ((1,),), ((0, ((0, 1),), (), 0),))
        self.same((loose_round(machine), falls(machine)), (((0,), 0), None))
        machine = Machine(1, ((1,),), ((0, ((0, 1),), (0,), 0),))
        self.same((loose_round(machine), is_falls(machine, falls(machine))), (None, True))

    def test_each_round_puts_back_some_clock_and_still_it_is_loose(self):
        machine = Machine(2, ((1, 1),) * 2, ((0, GOOD, (0,), 1), (1, GOOD, (0,), 0)))
        self.same(is_loose(machine, ((0, 1), 1)), True)
        self.same((loose_round(machine)[1], falls(machine)), (1, None))

    def test_guards_and_limits_have_no_say(self):
        for machine in MACHINES[:60]:
            doors = [(door[0], ((3, 3),) * machine.clocks, door[2], door[3]) for door in machine.doors]
            other = Machine(machine.clocks, ((0,) * machine.clocks,) * machine.rooms, tuple(doors))
            self.same(loose_round(other) is None, loose_round(machine) is None)
            self.same(falls(machine) is None or is_falls(other, falls(machine)), True)

    def test_without_some_doors_a_tight_machine_is_tight(self):
        for machine in MACHINES:
            if loose_round(machine) is None and machine.doors:
                self.same(loose_round(without_doors(machine, (0,))), None)
                self.same(is_falls(without_doors(machine, (0,)), falls(machine)), True)

    def test_falls_near_by(self):
        chain = Machine(2, ((4, 4),) * 3, ((0, GOOD, (0,), 1), (1, GOOD, (0,), 2), (2, GOOD, (1,), 0)))
        right = [((-5, 0, 1), (2, 1, 0)), ((0, 0, 1), (MOST, 0, -MOST)), ((7, 7, 8), (9, 5, 3))]
        wrong = [((0, 0, 0), (2, 1, 0)), ((0, 0, 1), (1, 1, 0)), ((0, 0, 1), (2, 1)), ((0, 0, 1),), ((0, 0, 1),) * 3,
                 ((False, 0, 1), (2, 1, 0)), ((0, 0, True), (2, 1, 0)), ((0, 0, 1), (LONG, 1, 0)),
                 ((0, 0, 1), (2, 1, -LONG)), [(0, 0, 1), (2, 1, 0)], ([0, 0, 1], (2, 1, 0)), ((0, 0, 1), None),
                 ((2, 1, 0), (0, 0, 1)), ((0, None, 1), (2, 1, 0)), ((0, "0", 1), (2, 1, 0)), ((0, 0, 1, 1), (2, 1, 0))]
        self.judged(lambda value: is_falls(chain, value), right, wrong)

    def test_falls_have_short_integers(self):
        for machine in MACHINES:
            self.assertTrue(max([abs(number) for row in falls(machine) or () for number in row] + [0]) < 10 ** 30)

    def test_what_is_no_machine_is_refused(self):
        wrong = [value for value in EVERYTHING if not isinstance(value, Machine)]
        for call in (loose_round, falls):
            self.all_refused(InvalidMachine, call, wrong)
        for call in (is_loose, is_falls, with_door, without_doors):
            self.all_refused(InvalidMachine, lambda machine: call(machine, None), wrong)
        self.all_refused(InvalidMachine, lambda machine: with_limits(machine, None, None), wrong)


class Edits(Case):
    def test_with_door(self):
        found = with_door(TWO, (1, GOOD, (), 1))
        self.same((found.doors, found.limits), ((DOOR, (1, GOOD, (), 1)), TWO.limits))
        self.same(TWO.doors, (DOOR,))
        self.same(len(with_door(Machine(2, TWO.limits, (DOOR,) * 11), DOOR).doors), 12)
        self.all_refused(InvalidOperation, lambda door: with_door(TWO, door), NO_DOORS)

    def test_with_door_refuses_too_many(self):
        full = Machine(2, TWO.limits, (DOOR,) * 12)
        self.refused(TooMany, with_door, full, DOOR, limit=12)
        self.all_refused(InvalidOperation, lambda door: with_door(full, door), NO_DOORS)

    def test_without_doors(self):
        for machine in MACHINES[:40]:
            many = len(machine.doors)
            for lot in {(), tuple(range(many)), tuple(range(0, many, 2)), tuple(range(1, many, 3))}:
                found = without_doors(machine, lot)
                wanted = tuple([door for at, door in enumerate(machine.doors) if at not in lot])
                self.same((found.clocks, found.limits, found.doors), (machine.clocks, machine.limits, wanted))
        wrong = NO_TUPLES + ((2,), (-1,), (1, 0), (0, 0), (True,), (False, 1), (None,), ("0",), ([0],), ((0,),), (LONG,))
        self.all_refused(InvalidOperation, lambda lot: without_doors(M, lot), wrong)

    def test_with_limits(self):
        found = with_limits(TWO, 1, (0, 3))
        self.same((found.clocks, found.limits, found.doors), (2, ((4, 4), (0, 3)), TWO.doors))
        self.same(with_limits(TWO, 0, (0, 0)).limits, ((0, 0), (0, 0)))
        self.assertTrue(with_limits(TWO, 0, (4, 4)) == TWO)
        self.same(TWO.limits, ((4, 4), (0, 0)))

    def test_with_limits_refuses(self):
        self.all_refused(InvalidNumber, lambda room: with_limits(TWO, room, None), NO_INTEGERS + (2, -1), "given")
        self.all_refused(InvalidOperation, lambda limits: with_limits(TWO, 1, limits), NO_LIMITS)

"""Stage 21: the desk, call by call, against machines that are made from nothing."""
import random
from fractions import Fraction

from anymargin import errors
from anymargin.come.every import comes_with_every, margin_answer
from anymargin.errors import (
    InvalidMachine, InvalidNumber, InvalidOperation, InvalidRun, NothingToUndo, Refused, TooMany)
from anymargin.house import desk as module
from anymargin.house.desk import Desk
from anymargin.machine.machines import Machine, is_door
from anymargin.machine.runs import is_run, needed
from anymargin.mend.mends import least_mends
from tests.support import (
    BASE, EVERYTHING, HOLDS, LONG, MACHINE, NO_INTEGERS, Case, is_tight, random_guard, random_machine, random_run)
from tests.test_every import LOOSE, SPIN
from tests.test_runs import NO_MACHINES, NO_RUNS

EXAMPLES = """
>>> DESK = Desk(Machine(1, ((2,), (2,)), ((0, ((1, 2),), (0,), 1),)))
>>> RUN, NEW = (((1, 1), 0),), (0, ((0, 0),), (), 1)
>>> [DESK.comes(1), DESK.put_door(0, NEW), DESK.places(0), DESK.led(0, RUN), DESK.keeps(0, RUN), DESK.since(1)]
[True, 1, (1,), (((1, 1), 1),), True, 0]
>>> [DESK.take_door(0), DESK.take_door(0), DESK.comes(1), DESK.since(1), DESK.led(0, RUN), DESK.led(1, (((0, 1), 0),)), str(DESK)]
[2, 3, False, 3, None, None, 'desk of 2 rooms, 0 doors, 3 calls']
>>> [DESK.undo(calls=2), DESK.mends(1), DESK.machine.doors[0] == NEW, DESK.set_limits(0, (0,)), DESK.since(1), DESK.keeps(0, RUN)]
[1, ((0, 1),), True, 2, 0, False]
>>> DESK.undo(calls=9)
raises NothingToUndo(9)
"""

DOOR = (0, ((0, 4), (0, 4)), (0, 1), 1)


class Model:
    """A desk that makes each machine from nothing; doors are told apart by names."""

    def __init__(self, machine):
        self.first, self.calls = machine, []

    def named(self, many):
        """The limits, and the pairs (name, door), behind so many calls."""
        limits, rows = list(self.first.limits), list(enumerate(self.first.doors))
        for at, call in enumerate(self.calls[:many]):
            if call[0] == "put":
                rows.insert(call[1], (("new", at), call[2]))
            elif call[0] == "take":
                del rows[call[1]]
            else:
                limits[call[1]] = call[2]
        return tuple(limits), rows

    def machine(self, many=None):
        limits, rows = self.named(len(self.calls) if many is None else many)
        return Machine(self.first.clocks, limits, tuple([door for name, door in rows]))

    def places(self, many):
        names = [name for name, door in self.named(len(self.calls))[1]]
        return tuple([names.index(name) if name in names else None for name, door in self.named(many)[1]])

    def since(self, room):
        now, many = comes_with_every(self.machine(), room), len(self.calls)
        while many and is_tight(self.machine(many - 1)) and comes_with_every(self.machine(many - 1), room) == now:
            many -= 1
        return many


def random_call(chosen, machine):
    """A call that can be done, and what does it."""
    kinds = ["limits"] + ["put"] * 2 * (len(machine.doors) < 12) + ["take"] * 2 * (len(machine.doors) > 0)
    kind = chosen.choice(kinds)
    if kind == "limits":
        room = chosen.randrange(machine.rooms)
        limits = tuple([chosen.choice((1, 2, 4, machine.limits[room][clock])) for clock in range(machine.clocks)])
        return (kind, room, limits), lambda desk: desk.set_limits(room, limits)
    if kind == "take":
        index = chosen.randrange(len(machine.doors))
        return (kind, index), lambda desk: desk.take_door(index)
    index = chosen.randrange(len(machine.doors) + 1)
    resets = chosen.choice((tuple(range(machine.clocks)),) * 4 + ((), (0,)))
    door = (chosen.randrange(machine.rooms), tuple([random_guard(chosen) for _ in range(machine.clocks)]), resets,
            chosen.randrange(machine.rooms))
    return (kind, index, door), lambda desk: desk.put_door(index, door)


def edited(seed, machine, many):
    """A desk and a model of it, behind so many calls."""
    chosen = random.Random(seed)
    desk, model = Desk(machine), Model(machine)
    while len(model.calls) < many:
        call, deed = random_call(chosen, model.machine())
        model.calls.append(call)
        assert deed(desk) == len(model.calls)
        if chosen.randrange(9) == 0:
            back = chosen.randrange(1, min(4, len(model.calls)) + 1)
            model.calls = model.calls[:-back]
            assert desk.undo(calls=back) == len(model.calls)
    return desk, model


FIRSTS = [HOLDS, BASE, SPIN, MACHINE, LOOSE, Machine(1, ((4,),) * 3, ((0, ((1, 2),), (0,), 1), (1, ((1, 1),), (0,), 2))),
          random_machine(random.Random(210), 2, 3, 5), Machine(3, ((1, 1, 1),) * 2, ())]
PAIRS = [edited(seed, machine, 3 + seed % 9) for seed, machine in enumerate(FIRSTS * 5)]


def refusal(call):
    try:
        return call()
    except (Refused, TooMany) as error:
        return repr((type(error), vars(error)))


class Desks(Case):
    def test_examples(self):
        self.examples(EXAMPLES, dict(vars(module), Machine=Machine), vars(errors))

    def test_calls_that_stand(self):
        for desk, model in PAIRS:
            now = model.machine()
            self.same((desk.machine == now, desk.first == model.first, desk.calls), (True, True, tuple(model.calls)))
            self.same((len(desk), str(desk)), (len(model.calls), f"desk of {now.rooms} rooms, {len(now.doors)} doors, {len(model.calls)} calls"))
            for many in range(len(model.calls) + 1):
                self.same(desk.behind(many) == model.machine(many), True)
                self.same(desk.places(many), model.places(many))

    def test_what_is_told_is_as_if_made_from_nothing(self):
        counts = {}
        for desk, model in PAIRS:
            now = model.machine()
            for room in range(now.rooms):
                calls = ((desk.comes, comes_with_every), (desk.answer, margin_answer), (desk.mends, least_mends))
                for call, wanted in calls:
                    found, told = refusal(lambda: call(room)), refusal(lambda: wanted(now, room))
                    self.assertEqual(found, told)
                    self.assertEqual(isinstance(found, str), not is_tight(now))
                if is_tight(now):
                    self.same(desk.since(room), model.since(room))
                    counts[desk.since(room) > 0] = counts.get(desk.since(room) > 0, 0) + 1
                else:
                    self.same(refusal(lambda: desk.since(room)), refusal(lambda: comes_with_every(now, room)))
        self.assertGreater(min(counts.values()), 10)

    def test_led_runs(self):
        chosen = random.Random(211)
        counts = {True: 0, False: 0, None: 0}
        for desk, model in PAIRS:
            now = model.machine()
            for many in range(len(model.calls) + 1):
                old, places = model.machine(many), model.places(many)
                for run in [()] + [random_run(chosen, old, 3) for _ in range(4)]:
                    found = desk.led(many, run)
                    if None in [places[door] for wait, door in run]:
                        self.same((found, desk.keeps(many, run)), (None, False))
                        counts[None] += 1
                        continue
                    self.same(found, tuple([(wait, places[door]) for wait, door in run]))
                    self.same(is_run(now, found), True)
                    wanted = Fraction(*needed(now, found)) <= Fraction(*needed(old, run))
                    self.same(desk.keeps(many, run), wanted)
                    counts[wanted] += 1
        self.assertGreater(min(counts.values()), 15)

    def test_more_lets_more(self):
        puts = 0
        chosen = random.Random(212)
        for desk, model in PAIRS:
            for many, call in enumerate(model.calls):
                old, new = desk.behind(many), desk.behind(many + 1)
                grows = call[0] == "put" or call[0] == "limits" and all([a >= b for a, b in zip(call[2], old.limits[call[1]])])
                part = desk.twin()
                if len(desk) > many + 1:
                    part.undo(calls=len(desk) - many - 1)
                if is_tight(old) and is_tight(new):
                    before = {room for room in range(old.rooms) if comes_with_every(old, room)}
                    behind = {room for room in range(old.rooms) if part.comes(room)}
                    if grows:
                        puts += 1
                        self.assertLessEqual(before, behind)
                    if call[0] == "take":
                        self.assertLessEqual(behind, before)
                for run in [random_run(chosen, old, 4) for _ in range(4)] if grows else ():
                    self.same(part.keeps(many, run), True)
        self.assertGreater(puts, 30)

    def test_undoing(self):
        for desk, model in PAIRS:
            for many in range(len(model.calls)):
                part = desk.twin()
                self.same(part.undo(calls=len(desk) - many), many)
                other = Desk(model.first)
                for call in model.calls[:many]:
                    {"put": other.put_door, "take": other.take_door, "limits": other.set_limits}[call[0]](*call[1:])
                self.same((part == other, part.machine == other.machine, part.calls, len(part)), (True, True, other.calls, many))
                self.same([part.places(k) for k in range(many + 1)], [other.places(k) for k in range(many + 1)])
        desk = Desk(HOLDS)
        desk.put_door(2, DOOR)
        self.same((desk.undo(), desk == Desk(HOLDS), desk.calls), (0, True, ()))

    def test_twins(self):
        for desk, model in PAIRS:
            twin = desk.twin()
            self.same((twin == desk, twin != desk, twin.calls, twin.machine == desk.machine), (True, False, desk.calls, True))
            before = (desk.calls, len(desk), str(desk))
            self.same(twin.set_limits(0, (0,) * model.first.clocks), len(desk) + 1)
            self.same(((desk.calls, len(desk), str(desk)), twin == desk), (before, False))
            twin.undo()
            self.same(twin == desk, True)
            if len(desk):
                twin.undo(calls=len(desk))
                self.same((len(twin), (desk.calls, len(desk), str(desk))), (0, before))

    def test_equality(self):
        desk = Desk(HOLDS)
        self.same([desk == Desk(HOLDS), desk == Desk(BASE), desk != Desk(HOLDS), desk == HOLDS], [True, False, False, False])
        for value in EVERYTHING:
            self.same((desk == value, desk != value), (False, True))
        # Equal machines need not have equal desks.
        desk.set_limits(0, HOLDS.limits[0])
        self.same((desk.machine == HOLDS, desk == Desk(HOLDS)), (True, False))
        with self.assertRaises(TypeError):
            iter(desk)


class Edges(Case):
    def test_as_many_calls_as_are_let(self):
        desk = Desk(Machine(1, ((2,), (2,)), ((0, ((1, 2),), (0,), 1),)))
        for at in range(100):
            self.same((desk.put_door(0, (0, ((0, 0),), (), 1)), desk.take_door(0)), (2 * at + 1, 2 * at + 2))
        before = desk.calls
        for call in (lambda: desk.put_door(0, (0, ((0, 0),), (), 1)), lambda: desk.take_door(0), lambda: desk.set_limits(0, (1,))):
            self.refused(TooMany, call, limit=200)
        self.same((desk.calls == before, len(desk), desk.since(1), desk.since(0)), (True, 200, 0, 0))
        self.same((desk.places(0), desk.places(1), desk.led(0, (((1, 1), 0),)), desk.keeps(0, (((1, 1), 0),))),
                  ((0,), (None, 0), (((1, 1), 0),), True))
        # Other errors come first.
        self.refused(InvalidNumber, desk.take_door, 1, given=1)
        self.refused(InvalidOperation, desk.set_limits, 0, (5,))
        self.same((desk.undo(calls=200), desk.undo.__name__), (0, "undo"))
        self.refused(NothingToUndo, desk.undo, wanted=1)

    def test_as_many_doors_as_are_let(self):
        desk = Desk(MACHINE)
        door = (0, ((0, 4),), (0,), 0)
        for at in range(12):
            self.same(desk.put_door(at, door), at + 1)
        self.refused(TooMany, desk.put_door, 0, door, limit=12)
        self.refused(InvalidOperation, desk.put_door, 12, DOOR)
        self.refused(InvalidNumber, desk.put_door, 13, DOOR, given=13)
        self.same((len(desk), desk.comes(0), desk.places(12), desk.mends(0)), (12, True, tuple(range(12)), ()))
        for at in range(94):
            desk.take_door(0)
            desk.put_door(0, door)
        self.same(len(desk), 200)
        # Twelve doors are told ahead of too many calls.
        self.refused(TooMany, desk.put_door, 0, door, limit=12)
        self.refused(TooMany, desk.take_door, 0, limit=200)

    def test_loose_machines_are_let(self):
        desk = Desk(LOOSE)
        for call in (desk.comes, desk.answer, desk.mends, desk.since):
            with self.assertRaises(Refused) as caught:
                call(0)
            self.same(caught.exception.reason[0], "loose")
            self.refused(InvalidNumber, call, 2, given=2)
        desk.take_door(1)
        self.same((desk.comes(0), desk.since(0), desk.since(1)), (True, 1, 1))
        desk.put_door(1, LOOSE.doors[1])
        self.assertRaises(Refused, desk.since, 0)
        desk.take_door(0)
        # Behind the second call the machine was loose.
        self.same((desk.since(0), desk.since(1)), (3, 3))


class Wrong(Case):
    def test_wrong_arguments(self):
        self.all_refused(InvalidMachine, Desk, NO_MACHINES)
        desk = Desk(HOLDS)
        desk.put_door(1, DOOR)
        before = (desk.calls, str(desk))
        for call in (lambda index: desk.put_door(index, 0), desk.take_door, lambda room: desk.set_limits(room, 0)):
            self.all_refused(InvalidNumber, call, NO_INTEGERS + (-1, 4, 9), "given")
        for call in (desk.comes, desk.answer, desk.mends, desk.since):
            self.all_refused(InvalidNumber, call, NO_INTEGERS + (-1, 2), "given")
        self.refused(InvalidNumber, desk.take_door, 3, given=3)
        wrong = tuple([value for value in EVERYTHING if not is_door(2, 2, value)])
        self.all_refused(InvalidOperation, lambda door: desk.put_door(3, door), wrong + (
            DOOR[:3], DOOR + (0,), (2,) + DOOR[1:], DOOR[:3] + (2,), DOOR[:1] + (((0, 5), (0, 4)),) + DOOR[2:], list(DOOR)))
        self.all_refused(InvalidOperation, lambda limits: desk.set_limits(1, limits), EVERYTHING[:20] + ((1,), (1, 5), (1, True), (1, 2, 3), [1, 2]))
        for call in (desk.behind, desk.places, lambda many: desk.led(many, 0), lambda many: desk.keeps(many, 0)):
            self.all_refused(InvalidNumber, call, NO_INTEGERS + (-1, 2), "given")
        wrong = tuple([value for value in NO_RUNS + EVERYTHING if not is_run(HOLDS, value)])
        for call in (desk.led, desk.keeps):
            self.all_refused(InvalidRun, lambda run: call(0, run), wrong)
            self.refused(InvalidRun, call, 0, (((0, 1), 2),))
            self.same(call(1, (((0, 1), 0), ((0, 1), 2))) in (True, False, (((0, 1), 0), ((0, 1), 2))), True)
        self.same((desk.calls, str(desk)), before)

    def test_wrong_numbers_of_calls(self):
        desk = Desk(HOLDS)
        desk.put_door(1, DOOR)
        for calls in NO_INTEGERS + (0, -1):
            with self.assertRaises(InvalidNumber) as caught:
                desk.undo(calls=calls)
            self.same(caught.exception.given, calls)
        for calls in (2, 201, LONG - 1):
            with self.assertRaises(NothingToUndo) as caught:
                desk.undo(calls=calls)
            self.same(caught.exception.wanted, calls)
        self.assertRaises(TypeError, desk.undo, 1)
        self.same(len(desk), 1)

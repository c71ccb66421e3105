"""Stage 11: what is come to within 1/m, against readings that are multiples of 1/m, tried one by one."""
import random
from fractions import Fraction
from unittest import mock

from anymargin import errors
from anymargin.come import within as module
from anymargin.come.within import is_table, least_margin, made_zone, within_answer
from anymargin.errors import InvalidMachine, InvalidNumber, InvalidZone, TooMany
from anymargin.machine.machines import Machine
from anymargin.machine.runs import is_run, needed, room_behind
from anymargin.zone.deeds import cut, later, put_back, step_zone
from anymargin.zone.zones import Zone, point_zone, whole_zone
from tests.support import (
    BASE, EVERYTHING, HOLDS, MACHINE, MOST, NO_INTEGERS, NO_TUPLES, ZONE, Case, random_machine, told)
from tests.test_deeds import NO_ZONES, zones
from tests.test_runs import NO_MACHINES

EXAMPLES = """
>>> NONE = Zone(2, 2, ((0, 0, 0),) * 3)
>>> [within_answer(HOLDS, 1, 1)[0], needed(HOLDS, within_answer(HOLDS, 1, 1)[1]), within_answer(HOLDS, 1, 2)[0], least_margin(HOLDS, 1)]
['come', (1, 1), 'never', 2]
>>> [made_zone(HOLDS, 0, NONE) == NONE, made_zone(HOLDS, 1, NONE).is_empty, is_table(HOLDS, 1, 2, ((NONE,), ())), is_table(HOLDS, 0, 2, ((NONE,), ()))]
[True, True, True, False]
>>> [is_table(HOLDS, 1, 2, ((), ())), is_table(HOLDS, 1, 3, ((NONE,), ())), within_answer(HOLDS, 0, 64)[0], least_margin(HOLDS, 0)]
[False, False, 'come', None]
"""

# A machine whose walk for 64 keeps more than 2000 zones; no door leads to its last room.
WIDE = Machine(3, ((2, 4, 2), (4, 4, 4), (0, 0, 0)), (
    (0, ((0, 4), (0, 4), (0, 4)), (2,), 1), (1, ((0, 4), (0, 4), (1, 1)), (1,), 1),
    (1, ((0, 4), (0, 0), (0, 4)), (1,), 1), (0, ((0, 4), (1, 1), (0, 4)), (2,), 1),
    (0, ((0, 4), (1, 1), (0, 4)), (1,), 1), (1, ((0, 4), (2, 2), (0, 1)), (2,), 1),
    (1, ((0, 4), (0, 3), (0, 0)), (2,), 0), (1, ((0, 4), (0, 4), (0, 4)), (0, 1), 1),
    (0, ((0, 4), (0, 4), (1, 1)), (1,), 1), (0, ((0, 4), (1, 1), (0, 1)), (0,), 1),
    (0, ((0, 4), (0, 4), (2, 2)), (0, 1), 1), (0, ((1, 1), (0, 4), (0, 4)), (1,), 0)))


def random_machines(seed, many, clocks=(1, 2)):
    chosen = random.Random(seed)
    return [random_machine(chosen, clocks[at % len(clocks)], chosen.choice((2, 3, 4)), chosen.choice((3, 5, 8)))
            for at in range(many)]


MACHINES = random_machines(110, 60) + [HOLDS, BASE]


def standings_within(machine, m):
    """All pairs (room, readings counted by 1/m) behind doors, and at the beginning, of runs within 1/m."""
    start = (0, (0,) * machine.clocks)
    found, rows = {start}, [start]
    for room, readings in rows:
        while all([x <= limit * m + 1 for x, limit in zip(readings, machine.limits[room])]):
            for begin, guards, resets, goal in machine.doors:
                if begin == room and all([low * m - 1 <= x <= high * m + 1
                                          for x, (low, high) in zip(readings, guards)]):
                    behind = tuple([0 if at in resets else x for at, x in enumerate(readings)])
                    place = (goal, behind)
                    if place not in found and all([x <= limit * m + 1
                                                   for x, limit in zip(behind, machine.limits[goal])]):
                        found.add(place)
                        rows.append(place)
            readings = tuple([x + 1 for x in readings])
    return found


def walk(machine, room, m):
    """The pairs (room, zone) that the walk keeps, as the document tells it."""
    kept = [(0, point_zone(((0, 1),) * machine.clocks, m))]
    for place, zone in kept:
        if kept[-1][0] == room:
            break
        for door in machine.doors_from(place):
            goal, made = machine.doors[door][3], made_zone(machine, door, zone)
            if not made.is_empty and not any([made.is_within(other) for at, other in kept if at == goal]):
                kept.append((goal, made))
                if goal == room:
                    break
    return kept


class Forms(Case):
    def test_examples(self):
        self.examples(EXAMPLES, dict(vars(module), HOLDS=HOLDS, needed=needed), vars(errors))

    def test_constants(self):
        self.same((module.MOST_M, module.MOST_ZONES), (64, 2000))

    def test_made_zones(self):
        for at, machine in enumerate(random_machines(111, 60, (1, 2, 3))):
            m = (1, 2, 7, 64)[at % 4]
            for zone in zones(at, 2, (machine.clocks,), m):
                for door, (room, guards, resets, goal) in enumerate(machine.doors):
                    tops, enters = [tuple([limit * m + 1 for limit in machine.limits[place]]) for place in (room, goal)]
                    lows = tuple([low * m - 1 for low, high in guards])
                    highs = tuple([high * m + 1 for low, high in guards])
                    zeros = (0,) * machine.clocks
                    wanted = cut(put_back(cut(later(zone, tops), lows, highs), resets), zeros, enters)
                    found = made_zone(machine, door, zone)
                    self.same((found == wanted, found.unit, found == step_zone(machine, door, zone, 1)), (True, m, True))

    def test_wrong_arguments(self):
        self.all_refused(InvalidMachine, lambda machine: made_zone(machine, "a", 0), NO_MACHINES)
        self.all_refused(InvalidNumber, lambda door: made_zone(HOLDS, door, 0), NO_INTEGERS + (2, -1), "given")
        self.refused(InvalidNumber, made_zone, MACHINE, 0, 0, given=0)
        self.all_refused(InvalidZone, lambda zone: made_zone(HOLDS, 1, zone), NO_ZONES + (ZONE, whole_zone(3, 2)))
        for call in (within_answer, lambda machine, room, m: is_table(machine, room, m, 0)):
            self.all_refused(InvalidMachine, lambda machine: call(machine, "a", 0), NO_MACHINES)
            self.all_refused(InvalidNumber, lambda room: call(HOLDS, room, 0), NO_INTEGERS + (2, -1), "given")
            self.all_refused(InvalidNumber, lambda m: call(HOLDS, 1, m), NO_INTEGERS + (0, 65, -1, MOST), "given")
        self.all_refused(InvalidMachine, lambda machine: least_margin(machine, "a"), NO_MACHINES)
        self.all_refused(InvalidNumber, lambda room: least_margin(HOLDS, room), NO_INTEGERS + (2, -1), "given")


class Answers(Case):
    def test_answers_against_multiples(self):
        counts = {"come": 0, "never": 0}
        for machine in MACHINES:
            for m in (1, 2, 3):
                found = standings_within(machine, m)
                for room in range(machine.rooms):
                    kind, paper = within_answer(machine, room, m)
                    counts[kind] += 1
                    self.same(kind, "come" if room in [place for place, readings in found] else "never")
                    if kind == "come":
                        self.right_run(machine, room, m, paper)
                    else:
                        self.right_table(machine, room, m, paper, found)
        self.assertGreater(min(counts.values()), 100)

    def right_run(self, machine, room, m, run):
        self.same((is_run(machine, run), room_behind(machine, run)), (True, room))
        self.assertLessEqual(Fraction(*needed(machine, run)), Fraction(1, m))
        self.same([m % wait[1] for wait, door in run], [0] * len(run))

    def right_table(self, machine, room, m, table, found):
        self.same(is_table(machine, room, m, table), True)
        for place, readings in found:
            point = told([Fraction(reading, m) for reading in readings])
            self.same(any([zone.has(point) for zone in table[place]]), True)

    def test_three_clocks_and_great_m(self):
        for machine in random_machines(112, 20, (3,)) + [HOLDS, BASE]:
            for room in range(machine.rooms):
                for m in (1, 5, 64):
                    kind, paper = within_answer(machine, room, m)
                    if kind == "come":
                        self.right_run(machine, room, m, paper)
                    else:
                        self.same(is_table(machine, room, m, paper), True)

    def test_longer_runs(self):
        """Room by room, with resets of all kinds: each run is found back from its end."""
        chosen = random.Random(115)
        lengths = {}
        for at in range(400):
            clocks, rooms = at % 3 + 1, chosen.choice((4, 5, 6))
            rows = [random_machine(chosen, clocks, 1, 1).doors[0][1:3] for _ in range(rooms - 1)]
            doors = tuple([(room, guards, resets, room + 1) for room, (guards, resets) in enumerate(rows)])
            limits = random_machine(chosen, clocks, rooms, 0).limits
            machine = Machine(clocks, limits, doors)
            m = chosen.choice((1, 2, 3, 64))
            kind, run = within_answer(machine, rooms - 1, m)
            if kind == "come":
                lengths[len(run)] = lengths.get(len(run), 0) + 1
                self.right_run(machine, rooms - 1, m, run)
        self.assertGreater(min([lengths.get(many, 0) for many in (3, 4, 5)]), 15)

    def test_a_door_at_which_no_time_is_left(self):
        machine = Machine(1, ((0,), (0,), (4,)), ((0, ((1, 4),), (), 1), (1, ((0, 0),), (0,), 2)))
        self.same(within_answer(machine, 2, 2), ("come", (((1, 2), 0), ((0, 1), 1))))

    def test_answers_are_those_of_the_walk(self):
        for machine in MACHINES + random_machines(113, 20, (3,)):
            for room in range(machine.rooms):
                for m in (1, 4):
                    kept = walk(machine, room, m)
                    self.same(within_answer(machine, room, m)[0], "come" if kept[-1][0] == room else "never")
                    with mock.patch.object(module, "MOST_ZONES", len(kept)):
                        within_answer(machine, room, m)
                    if len(kept) > 1:
                        with mock.patch.object(module, "MOST_ZONES", len(kept) - 1):
                            self.refused(TooMany, within_answer, machine, room, m, limit=len(kept) - 1)

    def test_too_many_zones(self):
        self.refused(TooMany, within_answer, WIDE, 2, 64, limit=2000)
        self.same(within_answer(WIDE, 1, 64)[0], "come")
        self.same(is_table(WIDE, 2, 6, within_answer(WIDE, 2, 6)[1]), True)
        # What is wrong is told ahead of what would be too much.
        self.refused(InvalidNumber, within_answer, WIDE, 2, 65, given=65)

    def test_room_zero(self):
        for machine in MACHINES:
            for m in (1, 64):
                self.same(within_answer(machine, 0, m), ("come", ()))
            self.same(least_margin(machine, 0), None)

    def test_equality_within_the_margin(self):
        # One comes with a reading of 1 or more, at most 1/m less; the limit is 0, at most 1/m more.
        machine = Machine(1, ((0,), (4,)), ((0, ((1, 4),), (), 1),))
        self.same([within_answer(machine, 1, m)[0] for m in (1, 2, 3)], ["come", "come", "never"])
        self.same((within_answer(machine, 1, 2), least_margin(machine, 1)), (("come", (((1, 2), 0),)), 3))
        machine = Machine(1, ((4,), (0,)), ((0, ((4, 4),), (), 1),))
        self.same([within_answer(machine, 1, m)[0] for m in (1, 64)], ["never", "never"])

    def test_rounds_add_up(self):
        """BASE needs more and more rounds, but comes for each m."""
        for m in (1, 2, 9, 33, 64):
            kind, run = within_answer(BASE, 3, m)
            self.same((kind, needed(BASE, run)), ("come", (1, m)))
        self.same(least_margin(BASE, 3), None)


class Margins(Case):
    def test_the_least_margin(self):
        for machine in MACHINES:
            for room in range(machine.rooms):
                never = [m for m in range(1, 65) if m < 9 or m > 63]
                never = [m for m in never if within_answer(machine, room, m)[0] == "never"]
                found = least_margin(machine, room)
                if never and never[0] < 9:
                    self.same(found, never[0])
                    # A run within 1/(m + 1) is one within 1/m.
                    self.same(never, list(range(found, 9)) + [64])
                elif not never:
                    self.same(found, None)
                else:
                    self.assertTrue(9 <= found <= 64)
                    self.same([within_answer(machine, room, found + at)[0] for at in (-1, 0)], ["come", "never"])

    def test_a_margin_for_each_door(self):
        """In each of some rooms one waits for 1/m at most, and the last guard asks for 1, less 1/m."""
        for many in (1, 2, 3, 4):
            doors = [(room, ((0, 0), (0, 4)), (0,), room + 1) for room in range(many)]
            machine = Machine(2, ((0, 4),) * 6, tuple(doors) + ((many, ((0, 0), (1, 4)), (0,), 5),))
            self.same(least_margin(machine, 5), many + 3)
            self.same(within_answer(machine, 5, many + 2)[0], "come")

    def test_too_many_zones_while_counting_up(self):
        machine = Machine(2, BASE.limits + ((0, 0),), BASE.doors)
        most = max([len(walk(machine, 3, m)) for m in range(1, 65)])
        self.assertLess(len(walk(machine, 3, 1)), most)
        with mock.patch.object(module, "MOST_ZONES", most):
            self.same(least_margin(machine, 3), None)
        with mock.patch.object(module, "MOST_ZONES", most - 1):
            self.refused(TooMany, least_margin, machine, 3, limit=most - 1)
        # The walk for the result counts, those for greater m do not.
        self.same(least_margin(machine, 4), 1)
        with mock.patch.object(module, "MOST_ZONES", len(walk(machine, 4, 1))):
            self.same(least_margin(machine, 4), 1)
        with mock.patch.object(module, "MOST_ZONES", len(walk(machine, 4, 1)) - 1):
            self.refused(TooMany, least_margin, machine, 4)


class Tables(Case):
    def test_what_tables_have_to_hold(self):
        for machine in MACHINES[:40]:
            for room in range(1, machine.rooms):
                kind, table = within_answer(machine, room, 2)
                if kind == "never":
                    self.near_by(machine, room, table)

    def near_by(self, machine, room, table):
        """A table without one of its zones is none, if one of the others, or the beginning, leads there."""
        whole = whole_zone(machine.clocks, 2)
        for place in range(machine.rooms):
            wide = table[:place] + ((whole,) + table[place],) + table[place + 1:]
            self.same(is_table(machine, room, 2, wide), self.is_right(machine, room, 2, wide))
            for at in range(len(table[place])):
                less = table[:place] + (table[place][:at] + table[place][at + 1:],) + table[place + 1:]
                self.same(is_table(machine, room, 2, less), self.is_right(machine, room, 2, less))
                self.same(is_table(machine, room, 2, table[:place] + (table[place] * 2,) + table[place + 1:]), True)

    def is_right(self, machine, room, m, table):
        """What is_table asks for, zone by zone."""
        if table[room] or not any([zone.has(((0, 1),) * machine.clocks) for zone in table[0]]):
            return False
        for door, (begin, guards, resets, goal) in enumerate(machine.doors):
            for zone in table[begin]:
                made = made_zone(machine, door, zone)
                if not made.is_empty and not any([made.is_within(other) for other in table[goal]]):
                    return False
        return True

    def test_tables_of_any_zones(self):
        """Zones of tables can go on without end, or have bounds of any length."""
        chosen = random.Random(114)
        counts = {True: 0, False: 0}
        for at in range(1500):
            machine = random_machine(chosen, at % 2 + 1, 2, 2)
            m = chosen.choice((1, 2, 64))
            row = [None, 0, 0, 1, 3, -1, m, 4 * m, 4 * m + 1, 4 * m + 2, -4 * m - 1, -4 * m - 2, MOST, -MOST]
            lots = []
            for room in range(2):
                places = range(machine.clocks + 1)
                made = [Zone(machine.clocks, m, tuple([tuple([
                    0 if i == j or i == 0 and chosen.randrange(3) else chosen.choice(row) for j in places])
                    for i in places])) for _ in range(3)]
                lots.append(tuple([zone for zone in made if not zone.is_empty]))
            lots[0] = (whole_zone(machine.clocks, m),) + lots[0] if chosen.randrange(2) else lots[0]
            table = (lots[0], ()) if chosen.randrange(3) else tuple(lots)
            found = is_table(machine, 1, m, table)
            self.same(found, self.is_right(machine, 1, m, table))
            counts[found] += 1
        self.assertGreater(min(counts.values()), 100)

    def test_within_one_zone(self):
        """What a door makes has to lie within one zone, not within several ones together."""
        machine = Machine(1, ((2,), (2,)), ((0, ((0, 4),), (), 0),))
        low, high = Zone(1, 1, ((0, 0), (1, 0))), Zone(1, 1, ((0, -1), (3, 0)))
        self.same(is_table(machine, 1, 1, ((low, high), ())), False)
        self.same(is_table(machine, 1, 1, ((Zone(1, 1, ((0, 0), (3, 0))),), ())), True)
        self.same(is_table(machine, 1, 1, ((Zone(1, 1, ((0, 0), (2, 0))),), ())), False)
        self.same(is_table(machine, 1, 1, ((whole_zone(1, 1),), ())), True)

    def test_judged_tables(self):
        none = Zone(2, 2, ((0, 0, 0),) * 3)
        empty = Zone(2, 2, ((0, -3, 0), (2, 0, 0), (0, 0, 0)))
        right = [((none,), ()), ((none, none), ()), ((none.finer(1),), ())]
        wrong = [(), ((none,),), ((none,), (), ()), [(none,), ()], ([none], ()), ((none,), []), ((none,), None), none,
                 ((none,), (none,)), ((), (none,)), ((none, empty), ()), ((none, 0), ()), ((none, none.told), ()),
                 ((none.finer(2),), ()), ((point_zone(((0, 1), (0, 1)), 1),), ()), ((ZONE,), ()),
                 ((none, whole_zone(2, 1)), ()), ((none, whole_zone(1, 2)), ()), ((point_zone(((1, 1), (0, 1)), 2),), ())]
        self.judged(lambda value: is_table(HOLDS, 1, 2, value), right, wrong)
        self.judged(lambda value: is_table(HOLDS, 1, 1, value), [], right)
        self.judged(lambda value: is_table(HOLDS, 0, 2, value), [], right + [((), ()), ((), (none,))])

    def test_a_table_of_numbers_for_another_m_is_none(self):
        """The numbers of a table for m, with the unit m + 1, do not always tell a table for m + 1."""
        found = False
        for machine in MACHINES:
            for room in range(1, machine.rooms):
                kind, table = within_answer(machine, room, 2)
                if kind == "never":
                    other = tuple([tuple([Zone(zone.clocks, 3, zone.bounds) for zone in row]) for row in table])
                    found = found or not is_table(machine, room, 3, other)
        self.same(found, True)

    def test_no_value_is_changed(self):
        table = within_answer(BASE, 0, 1), within_answer(HOLDS, 1, 2)[1]
        before = repr([[zone.told for zone in row] for row in table[1]])
        self.same((is_table(HOLDS, 1, 2, table[1]), within_answer(HOLDS, 1, 2)[1] == table[1]), (True, True))
        self.same(repr([[zone.told for zone in row] for row in table[1]]), before)

    def test_everything(self):
        for value in EVERYTHING + NO_TUPLES:
            for room in (0, 1):
                self.same(is_table(HOLDS, room, 2, value), False)

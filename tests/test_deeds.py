"""Stage 6: what steps make of zones, against points that are tried one by one."""
import random
from fractions import Fraction
from itertools import product

from anymargin import errors
from anymargin.clock.classes import classes_within, is_by
from anymargin.errors import InvalidClass, InvalidMachine, InvalidNumber, InvalidOperation, InvalidZone
from anymargin.machine.machines import Machine
from anymargin.zone import deeds as module
from anymargin.zone.deeds import (
    back_zone, class_zone, cut, earlier, freed, later, put_back, step_zone, widened)
from anymargin.zone.zones import Zone, point_zone, whole_zone
from tests.support import (
    EVERYTHING, HOLDS, LONG, MACHINE, MOST, NO_INTEGERS, NO_TUPLES, ZONE, Case, random_machine, told)
from tests.test_machines import NO_GUARDS

EXAMPLES = """
>>> Z = point_zone(((1, 1), (0, 1)), 2)
>>> [later(Z, (6, 6)).bounds, later(Z, (1, 6)).is_empty, put_back(later(Z, (6, 6)), (0,)).bounds]
[((0, -2, 0), (6, 0, 2), (4, -2, 0)), True, ((0, 0, 0), (0, 0, 0), (4, 4, 0))]
>>> [earlier(Z).bounds, freed(Z, (0,)).is_empty, freed(Z, (1,)).bounds, cut(later(Z, (6, 6)), (3, 0), (None, 2)).bounds]
[((0, -2, 0), (2, 0, 2), (0, -2, 0)), True, ((0, -2, 0), (2, 0, 2), (None, None, 0)), ((0, -3, -1), (4, 0, 2), (2, -2, 0))]
>>> [widened(((0, 1), (2, 4)), 2, 1), class_zone(((1, 0), ((0,), (1,))), 1).bounds]
[((-1, 3), (3, 9)), ((0, -1, 0), (1, 0, 1), (1, 0, 0))]
>>> [step_zone(HOLDS, 1, point_zone(((0, 1), (0, 1)), 2), 1).is_empty, step_zone(HOLDS, 0, point_zone(((0, 1), (0, 1)), 2), 1) == point_zone(((0, 1), (0, 1)), 2)]
[True, True]
>>> widened(((0, 1),), 2, -1)
raises InvalidNumber(-1)
"""

HALF = Fraction(1, 2)
EMPTY = Zone(2, 2, ((0, -3, 0), (2, 0, 0), (0, 0, 0)))

# Points are tried in steps of half a unit, up to so many units.
FAR = 6


def random_zone(chosen, clocks, unit=1):
    """A zone with bounds of a few units; some stretch without end."""
    share = chosen.choice((1, 3, 6))
    row = [None] * share + list(range(-3, 6))
    return Zone(clocks, unit, tuple([tuple([0 if i == j else chosen.choice(row) for j in range(clocks + 1)])
                                     for i in range(clocks + 1)]))


def zones(seed, many, clocks=(1, 2), unit=1):
    """So many zones of some numbers of clocks, a few of them empty."""
    chosen = random.Random(seed)
    found = []
    while len(found) < many:
        zone = random_zone(chosen, clocks[len(found) % len(clocks)], unit)
        if not zone.is_empty or len(found) % 13 == 0:
            found.append(zone)
    return found


def grid(clocks, unit=1, far=FAR):
    """All rows of multiples of half a unit."""
    return list(product([Fraction(top, 2 * unit) for top in range(2 * far + 1)], repeat=clocks))


def points(zone, far=FAR):
    """The points of the zone that are multiples of half a unit, at most so far."""
    rows = grid(zone.clocks, zone.unit, far)
    return {row for row in rows if zone.has(told(row))}


def lots(clocks):
    """All ascending tuples of clocks."""
    return [tuple([clock for clock in range(clocks) if lot >> clock & 1]) for lot in range(1 << clocks)]


def with_zeros(row, clocks):
    return tuple([Fraction(0) if clock in clocks else row[clock] for clock in range(len(row))])


def moved(row, wait):
    return tuple([reading + wait for reading in row])


class Deeds(Case):
    def test_examples(self):
        self.examples(EXAMPLES, dict(vars(module), HOLDS=HOLDS, point_zone=point_zone), vars(errors))

    def like(self, zone, made):
        """What is made is a zone with the same clocks and unit."""
        self.assertIsInstance(made, Zone)
        self.same((made.clocks, made.unit), (zone.clocks, zone.unit))

    def has_just(self, zone, made, wanted, far=FAR):
        """The zone that was made has just the wanted ones of the points that are tried."""
        self.like(zone, made)
        for row in grid(zone.clocks, zone.unit, far):
            self.same((row, made.has(told(row))), (row, row in wanted))

    def test_later(self):
        chosen = random.Random(61)
        for zone in zones(1, 60):
            tops = tuple([chosen.randrange(-1, FAR + 1) for _ in range(zone.clocks)])
            inside = points(zone)
            waits = [HALF * top for top in range(2 * FAR + 1)]
            wanted = {moved(row, wait) for row in inside for wait in waits}
            wanted = {row for row in wanted if all([reading <= top for reading, top in zip(row, tops)])}
            self.has_just(zone, later(zone, tops), wanted)

    def test_earlier(self):
        for zone in zones(2, 60):
            # A point that some wait leads to is at most a few units further than what is tried.
            far = FAR + 4 if zone.clocks == 1 else FAR + 3
            waits = [HALF * top for top in range(2 * far + 1)]
            inside = points(zone, far + FAR)
            wanted = {row for row in grid(zone.clocks) if any([moved(row, wait) in inside for wait in waits])}
            self.has_just(zone, earlier(zone), wanted)

    def test_put_back_and_freed(self):
        for zone in zones(3, 40):
            inside = points(zone, FAR + 5)
            for clocks in lots(zone.clocks):
                self.has_just(zone, put_back(zone, clocks), {with_zeros(row, clocks) for row in inside})
                wanted = {row for row in grid(zone.clocks) if with_zeros(row, clocks) in inside}
                self.has_just(zone, freed(zone, clocks), wanted)

    def test_three_clocks(self):
        waits = [HALF * top for top in range(13)]
        for zone in zones(4, 6, (3,)):
            inside = points(zone, 8)
            few = set(grid(3, 1, 3))
            wanted = {moved(row, wait) for row in inside for wait in waits}
            wanted = {row for row in wanted if row[0] <= 2 and row[1] <= 3 and row[2] <= 1}
            self.has_just(zone, later(zone, (2, 3, 1)), wanted, 3)
            wanted = {row for row in few if any([moved(row, wait) in inside for wait in waits])}
            self.has_just(zone, earlier(zone), wanted, 3)
            self.has_just(zone, put_back(zone, (0, 2)), {with_zeros(row, (0, 2)) for row in inside}, 3)
            self.has_just(zone, freed(zone, (1,)), {row for row in few if with_zeros(row, (1,)) in inside}, 3)

    def test_cut(self):
        chosen = random.Random(62)
        for zone in zones(5, 60):
            lows = tuple([chosen.randrange(-2, 4) for _ in range(zone.clocks)])
            highs = tuple([chosen.choice((None, -1, 0, 1, 3, 5)) for _ in range(zone.clocks)])
            wanted = {row for row in points(zone) if all([
                low <= reading and (high is None or reading <= high) for reading, low, high in zip(row, lows, highs)])}
            self.has_just(zone, cut(zone, lows, highs), wanted)

    def test_units(self):
        """Numbers are counted by the unit."""
        zone = point_zone(((1, 4), (0, 1)), 4)
        self.same(later(zone, (3, 9)).edge(1, 0), ((3, 4), (1, 2)))
        self.same(cut(whole_zone(2, 4), (1, 0), (1, None)).least(), ((1, 4), (0, 1)))
        self.same(earlier(point_zone(((3, 64),), 64)).bounds, ((0, 0), (3, 0)))

    def test_equality_is_let(self):
        zone = point_zone(((1, 1), (0, 1)), 1)
        self.same(later(zone, (1, 0)) == zone, True)
        self.same(later(zone, (1, -1)).is_empty, True)
        self.same(cut(zone, (1, 0), (1, 0)) == zone, True)
        self.same([cut(zone, (2, 0), (2, 0)).is_empty, cut(zone, (0, 0), (0, 0)).is_empty], [True, True])
        self.same(cut(zone, (1, -MOST), (MOST, None)) == zone, True)
        self.same(cut(zone, (1, 1), (1, 0)).is_empty, True)

    def test_nothing_to_put_back(self):
        for zone in zones(6, 20) + [EMPTY]:
            self.same(put_back(zone, ()) == zone, True)
            self.same(freed(zone, ()) == zone, True)

    def test_empty_zones(self):
        for made in (later(EMPTY, (9, 9)), earlier(EMPTY), put_back(EMPTY, (0, 1)), freed(EMPTY, (0, 1)),
                     cut(EMPTY, (-9, -9), (None, None)), step_zone(HOLDS, 0, EMPTY, 64), back_zone(HOLDS, 0, EMPTY, 64)):
            self.like(EMPTY, made)
            self.same((made.is_empty, made.bounds, made.is_within(EMPTY)), (True, None, True))
            self.same(made.is_empty_round(made.empty_round()), True)

    def test_a_zone_within_another_one(self):
        chosen = random.Random(63)
        for one, other in zip(zones(7, 60), zones(8, 60)):
            both = one.met(other)
            tops = tuple([chosen.randrange(5) for _ in range(one.clocks)])
            clocks = chosen.choice(lots(one.clocks))
            for deed in (lambda zone: later(zone, tops), earlier, lambda zone: put_back(zone, clocks),
                         lambda zone: freed(zone, clocks), lambda zone: cut(zone, (0,) * zone.clocks, tops)):
                self.same(deed(both).is_within(deed(one)), True)
                self.same(deed(both).is_within(deed(other)), True)

    def test_arguments_do_not_change(self):
        zone = Zone(2, 2, ((0, 0, -1), (4, 0, None), (None, 1, 0)))
        for _ in range(2):
            later(zone, (1, 1)), earlier(zone), put_back(zone, (0,)), freed(zone, (1,)), cut(zone, (0, 0), (1, 1))
            step_zone(HOLDS, 0, zone, 1), back_zone(HOLDS, 0, zone, 1)
            self.same(zone.told, ((0, 0, -1), (4, 0, None), (None, 1, 0)))
            self.same(zone.bounds, ((0, 0, -1), (4, 0, 3), (5, 1, 0)))

    def test_what_is_not_true(self):
        # Later and then earlier is not always the zone itself.
        zone = point_zone(((1, 1), (0, 1)), 1)
        self.same(earlier(later(zone, (4, 4))) == zone, False)
        # It makes a difference whether one cuts ahead of putting back.
        one = cut(put_back(zone, (0,)), (1, 0), (1, None))
        self.same(one == put_back(cut(zone, (1, 0), (1, None)), (0,)), False)

    def test_numbers_far_away(self):
        zone = point_zone(((MOST, 1),), 64)
        self.same(later(zone, (MOST,)).is_empty, True)
        self.same(earlier(zone).bounds, ((0, 0), (64 * MOST, 0)))
        self.same(cut(whole_zone(1, 64), (MOST,), (MOST,)).least(), ((MOST, 64),))
        self.same(cut(whole_zone(1, 1), (-MOST,), (None,)) == whole_zone(1, 1), True)


class Steps(Case):
    def machines(self, seed, many, clocks=(1, 2)):
        chosen = random.Random(seed)
        return [random_machine(chosen, clocks[at % len(clocks)], 2, 1) for at in range(many)]

    def steps(self, machine, zone, slack, far):
        """All pairs (readings ahead, readings behind the door) of steps within the margin, in halves of the unit."""
        room, guards, resets, goal = machine.doors[0]
        wide = Fraction(slack, zone.unit)
        found = []
        for row in grid(machine.clocks, zone.unit, far):
            for top in range(2 * far + 1):
                ahead = moved(row, Fraction(top, 2 * zone.unit))
                behind = with_zeros(ahead, resets)
                keeps = all([reading <= limit + wide for reading, limit in zip(ahead, machine.limits[room])])
                keeps = keeps and all([low - wide <= x <= high + wide for x, (low, high) in zip(ahead, guards)])
                if keeps and all([reading <= limit + wide for reading, limit in zip(behind, machine.limits[goal])]):
                    found.append((row, behind))
        return found

    def test_steps_and_back(self):
        for at, machine in enumerate(self.machines(64, 40)):
            unit, slack = ((1, 0), (1, 1), (1, 2), (2, 1))[at % 4] if machine.clocks == 1 else ((1, 0), (1, 1))[at // 2 % 2]
            far = (4 * unit + slack) + 1
            for zone in zones(at, 3, (machine.clocks,), unit):
                pairs = self.steps(machine, zone, slack, far)
                there = {behind for ahead, behind in pairs if zone.has(told(ahead))}
                made = step_zone(machine, 0, zone, slack)
                self.same((made.clocks, made.unit), (zone.clocks, zone.unit))
                back = {ahead for ahead, behind in pairs if zone.has(told(behind))}
                led = back_zone(machine, 0, zone, slack)
                for row in grid(machine.clocks, unit, far):
                    self.same((row, made.has(told(row))), (row, row in there))
                    self.same((row, led.has(told(row))), (row, row in back))

    def test_whole_points_come_from_whole_points(self):
        for machine in self.machines(65, 30):
            for zone in zones(66, 3, (machine.clocks,)):
                whole = {row for row in points(zone, 5) if all([reading % 1 == 0 for reading in row])}
                pairs = self.steps(machine, zone, 1, 5)
                there = {behind for ahead, behind in pairs if ahead in whole}
                for row in points(step_zone(machine, 0, zone, 1), 5):
                    if all([reading % 1 == 0 for reading in row]):
                        self.assertIn(row, there)

    def test_common_points(self):
        """A step from one zone meets another one exactly if the zone meets what lies back of the other one."""
        for at, machine in enumerate(self.machines(67, 120, (1, 2, 3))):
            one, other = zones(at, 2, (machine.clocks,), 2)
            slack = at % 3
            self.same(step_zone(machine, 0, one, slack).met(other).is_empty,
                      back_zone(machine, 0, other, slack).met(one).is_empty)

    def test_one_behind_the_other(self):
        """Both are the deeds that the document tells, one behind the other."""
        for at, machine in enumerate(self.machines(68, 90, (1, 2, 3))):
            room, guards, resets, goal = machine.doors[0]
            unit, slack = (1, 2, 64)[at % 3], (0, 1, 64)[at // 3 % 3]
            zone = zones(at, 2, (machine.clocks,), unit)[1]
            tops = tuple([limit * unit + slack for limit in machine.limits[room]])
            enters = tuple([limit * unit + slack for limit in machine.limits[goal]])
            lows, highs = widened(guards, unit, slack)
            zeros = (0,) * machine.clocks
            made = cut(put_back(cut(later(zone, tops), lows, highs), resets), zeros, enters)
            self.same(step_zone(machine, 0, zone, slack) == made, True)
            led = earlier(cut(cut(freed(cut(zone, zeros, enters), resets), lows, highs), zeros, tops))
            self.same(back_zone(machine, 0, zone, slack) == led, True)

    def test_a_zone_within_another_one(self):
        for at, machine in enumerate(self.machines(69, 40)):
            one, other = zones(at, 2, (machine.clocks,), 2)
            both = one.met(other)
            for deed in (step_zone, back_zone):
                self.same(deed(machine, 0, both, 1).is_within(deed(machine, 0, one, 1)), True)
                self.same(deed(machine, 0, one, 1).is_within(deed(machine, 0, one, 2)), True)

    def test_edges_of_bounds(self):
        machine = Machine(1, ((2,), (1,)), ((0, ((1, 3),), (), 1), (0, ((1, 3),), (0,), 1)))
        zone = point_zone(((0, 1),), 2)
        self.same(step_zone(machine, 0, zone, 0) == point_zone(((1, 1),), 2), True)
        self.same(step_zone(machine, 0, zone, 1).bounds, ((0, -1), (3, 0)))
        self.same(step_zone(machine, 1, zone, 1) == zone, True)
        # The limit of the room is looked at ahead of the resets, that of the goal behind them.
        self.same(back_zone(machine, 1, zone, 0).bounds, ((0, 0), (4, 0)))
        self.same(back_zone(machine, 1, point_zone(((1, 2),), 2), 1).is_empty, True)

    def test_wrong_arguments(self):
        zone = whole_zone(2, 2)
        for deed in (step_zone, back_zone):
            self.all_refused(InvalidMachine, lambda machine: deed(machine, "a", 0, -1), [
                value for value in EVERYTHING if not isinstance(value, Machine)])
            self.all_refused(InvalidNumber, lambda door: deed(HOLDS, door, 0, -1), NO_INTEGERS + (2, -1), "given")
            self.refused(InvalidNumber, deed, MACHINE, 0, ZONE, 0, given=0)
            self.all_refused(InvalidZone, lambda value: deed(HOLDS, 1, value, -1), NO_ZONES + (ZONE, whole_zone(3, 2)))
            self.all_refused(InvalidNumber, lambda slack: deed(HOLDS, 1, zone, slack), NO_INTEGERS + (65, -1), "given")
            self.all_refused(InvalidNumber, lambda slack: deed(HOLDS, 1, EMPTY, slack), (65, -1), "given")
            self.same(deed(HOLDS, 1, zone, 64).is_empty, False)
            self.same(deed(HOLDS, 1, zone, 0).is_empty, False)


NO_ZONES = tuple([value for value in EVERYTHING if not isinstance(value, Zone)])


class Arguments(Case):
    zone = whole_zone(2, 2)

    # What is no row of two numbers.
    no_rows = NO_TUPLES + ((), (1,), (1, 2, 3), (1, True), (False, 1), (1, "2"), (1, (2,)), (1, LONG), (-LONG, 1),
                           [1, 2], ((1, 2), 3))

    def test_zones(self):
        for call in (lambda value: later(value, 0), earlier, lambda value: put_back(value, 0),
                     lambda value: freed(value, 0), lambda value: cut(value, 0, 0)):
            self.all_refused(InvalidZone, call, NO_ZONES)

    def test_rows_of_numbers(self):
        for zone in (self.zone, EMPTY):
            self.all_refused(InvalidOperation, lambda tops: later(zone, tops), self.no_rows + ((1, None), (None, 1)))
            self.all_refused(InvalidOperation, lambda lows: cut(zone, lows, (1, 1)), self.no_rows + ((1, None),))
            self.all_refused(InvalidOperation, lambda highs: cut(zone, (1, 1), highs), self.no_rows)
        self.same(cut(self.zone, (-MOST, MOST), (None, None)).bounds[0], (0, 0, -MOST))

    def test_lots_of_clocks(self):
        wrong = NO_TUPLES + ((2,), (-1,), (1, 0), (0, 0), (True,), (False, 1), ("0",), (None,), ((0,),), [0], (0, 1, 2),
                             (LONG,))
        for zone in (self.zone, EMPTY):
            for call in (put_back, freed):
                self.all_refused(InvalidOperation, lambda clocks: call(zone, clocks), wrong)


class Widened(Case):
    def test_widened(self):
        for unit, slack in product((1, 2, 63, 64), (0, 1, 64)):
            for guards in (((0, 4),), ((0, 0), (4, 4)), ((1, 3), (2, 2), (0, 1))):
                lows, highs = widened(guards, unit, slack)
                self.same(lows, tuple([low * unit - slack for low, high in guards]))
                self.same(highs, tuple([high * unit + slack for low, high in guards]))

    def test_wrong_arguments(self):
        wrong = NO_TUPLES + tuple([(guard,) for guard in NO_GUARDS]) + ((), ((0, 4),) * 4, (0, 4), [(0, 4)])
        self.all_refused(InvalidOperation, lambda guards: widened(guards, 0, -1), wrong)
        self.all_refused(InvalidNumber, lambda unit: widened(((0, 4),), unit, -1), NO_INTEGERS + (0, 65, -1), "given")
        self.all_refused(InvalidNumber, lambda slack: widened(((0, 4),), 1, slack), NO_INTEGERS + (65, -1), "given")


class Classes(Case):
    def test_closures_of_classes(self):
        for clocks, limits, bottom in ((1, (4,), 4), (2, (2, 1), 3), (3, (1, 1, 1), 2)):
            rows = list(product([Fraction(top, bottom) for top in range(3 * bottom)], repeat=clocks))
            for cls in classes_within(limits):
                for unit in (1, 3):
                    zone = class_zone(cls, unit)
                    self.same((zone.clocks, zone.unit), (clocks, unit))
                    for row in rows:
                        self.same(zone.has(told(row)), is_by(cls, told(row)))

    def test_edges(self):
        self.same(class_zone(((4,), ((0,),)), 64) == point_zone(((4, 1),), 64), True)
        self.same(class_zone(((0, 0, 0), ((0, 1, 2),)), 1) == point_zone(((0, 1),) * 3, 1), True)
        self.same(class_zone(((3,), ((), (0,))), 64).edge(1, 0), ((4, 1),))

    def test_wrong_arguments(self):
        right = ((0,), ((0,),))
        wrong = NO_TUPLES + ((), right[:1], ((5,), ((0,),)), ((4,), ((), (0,))), ((0,), ((),)), [right], ((True,), ((0,),)))
        self.all_refused(InvalidClass, lambda cls: class_zone(cls, 0), wrong)
        self.all_refused(InvalidNumber, lambda unit: class_zone(right, unit), NO_INTEGERS + (0, 65, -1), "given")

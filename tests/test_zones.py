"""Stage 5: zones, against points that are tried and rows that are added up one by one."""
import random
from fractions import Fraction
from itertools import product

from anymargin import errors
from anymargin.errors import InvalidNumber, InvalidOperation, InvalidReadings, InvalidZone, Refused
from anymargin.zone import zones as module
from anymargin.zone.zones import Zone, point_zone, whole_zone
from tests.support import EVERYTHING, LONG, MOST, NO_INTEGERS, NO_TUPLES, Case, numbers, told

EXAMPLES = """
>>> Z, NONE = Zone(2, 2, ((0, 0, -1), (4, 0, None), (None, 1, 0))), Zone(1, 1, ((0, -3), (2, 0)))
>>> [Z.bounds, Z.least(), Z.has(((2, 1), (5, 2))), NONE.is_empty, NONE.is_empty_round((1, 0)), whole_zone(2, 2).is_within(Z)]
[((0, 0, -1), (4, 0, 3), (5, 1, 0)), ((0, 1), (1, 2)), True, True, True, False]
>>> NONE.least()
raises Refused(('empty',))
"""

Z, NONE = Zone(2, 2, ((0, 0, -1), (4, 0, None), (None, 1, 0))), Zone(1, 1, ((0, -3), (2, 0)))


def random_bounds(chosen, size):
    """Bounds of which some are None, some below 0, and some at (0, i) and (i, i) above 0."""
    share = chosen.choice((2, 4, 9))
    row = [None] * share + list(range(-4, 9))
    return tuple([tuple([chosen.choice(row) if i != j or not chosen.randrange(9) else 0 for j in range(size)])
                  for i in range(size)])


def random_zones():
    chosen = random.Random(5)
    found = []
    for clocks in (1, 2, 3):
        for _ in range(60 * clocks):
            found.append(Zone(clocks, chosen.choice((1, 2, 3, 64)), random_bounds(chosen, clocks + 1)))
    return found


ZONES = random_zones()
FULL = [zone for zone in ZONES if not zone.is_empty]
EMPTY = [zone for zone in ZONES if zone.is_empty]


def counted(zone):
    """The bounds as they count."""
    size = zone.clocks + 1
    return [[0 if (i == 0 or i == j) and (zone.told[i][j] is None or zone.told[i][j] > 0) else zone.told[i][j]
             for j in range(size)] for i in range(size)]


def row_sum(rows, indices):
    """The sum of a row, None if one of its bounds is None."""
    bounds = [rows[i][j] for i, j in zip(indices, indices[1:])]
    return None if None in bounds else sum(bounds)


def least_sum(zone, i, j):
    """The least sum of a row from i to j without an index twice (but perhaps i and j)."""
    rows = counted(zone)
    others = [at for at in range(zone.clocks + 1) if at not in (i, j)]
    sums = [0] if i == j else []
    for many in range(len(others) + 1):
        for middle in product(others, repeat=many):
            found = row_sum(rows, (i,) + middle + (j,))
            sums += [] if found is None else [found]
    return min(sums) if sums else None


def is_point(zone, row):
    """Whether the row of numbers is a point, by the bounds as they were passed."""
    row = [Fraction(0)] + list(row)
    return all([zone.told[i][j] is None or (row[i] - row[j]) * zone.unit <= zone.told[i][j]
                for i in range(len(row)) for j in range(len(row))])


def near_points(zone):
    """Readings that are multiples of half the unit, some of them at the borders of zones."""
    return product([Fraction(top, 2 * zone.unit) for top in range(0, 20, 1 if zone.clocks < 3 else 3)],
                   repeat=zone.clocks)


class Forms(Case):
    def test_examples(self):
        self.examples(EXAMPLES, vars(module).copy(), vars(errors))

    def test_constant(self):
        self.same(module.MOST_UNIT, 64)

    def test_what_is_kept(self):
        for zone in (Z, NONE):
            again = Zone(zone.clocks, zone.unit, zone.told)
            self.same((again.clocks, again.unit, again.told), (zone.clocks, zone.unit, zone.told))
        self.same((Z.clocks, Z.unit, Z.told), (2, 2, ((0, 0, -1), (4, 0, None), (None, 1, 0))))
        self.same((Z.is_empty, NONE.is_empty, NONE.bounds), (False, True, None))

    def test_nothing_changes(self):
        for word in ("clocks", "unit", "told", "bounds", "is_empty"):
            with self.assertRaises(AttributeError):
                setattr(Z, word, 1)

    def test_wrong_arguments(self):
        rows = ((0, 0), (0, 0))
        self.all_refused(InvalidNumber, lambda clocks: Zone(clocks, 99, 0), NO_INTEGERS + (0, 4, -1), "given")
        self.all_refused(InvalidNumber, lambda unit: Zone(1, unit, 0), NO_INTEGERS + (0, 65, -1), "given")
        wrong = NO_TUPLES + ((), rows[:1], rows + rows, ((0, 0, 0),) * 3, ((0, 0), (0,)), ((0, 0), (0, 0, 0)),
                             ((0, 0), [0, 0]), [(0, 0), (0, 0)], ((0, 0), (True, 0)), ((False, 0), (0, 0)),
                             ((0, 0), ("1", 0)), ((0, 0), ((1,), 0)), ((0, 0), (LONG, 0)), ((0, -LONG), (0, 0)),
                             ((0, 0), None), ((0, 0), (0.5, 0)), (0, 0), ((0, 0), ((1, 2), 0)))
        self.all_refused(InvalidZone, lambda bounds: Zone(1, 1, bounds), wrong)
        self.refused(InvalidNumber, Zone, True, 99, (), given=True)
        self.refused(InvalidNumber, Zone, 2, 65, (), given=65)
        self.refused(InvalidZone, Zone, 2, 64, rows)

    def test_units_and_numbers_at_their_edges(self):
        for unit in (1, 64):
            for clocks in (1, 3):
                self.same(Zone(clocks, unit, ((0,) * (clocks + 1),) * (clocks + 1)).least(), ((0, 1),) * clocks)
        zone = Zone(1, 64, ((0, -MOST), (MOST, 0)))
        self.same((zone.least(), zone.bounds), (((MOST, 64),), ((0, -MOST), (MOST, 0))))
        zone = Zone(2, 1, ((0, -MOST, 0), (None, 0, -MOST), (None, None, 0)))
        self.same((zone.least(), zone.bounds[0]), (((MOST, 1), (2 * MOST, 1)), (0, -MOST, -2 * MOST)))

    def test_strings(self):
        self.same(str(Z), "zone of 2 clocks by 1/2")
        self.same(str(Zone(2, 4, ((None,) * 3,) * 3)), "zone of 2 clocks by 1/4")
        self.same(str(Zone(1, 2, ((0, -3), (2, 0)))), "empty zone of 1 clocks by 1/2")

    def test_equal_zones(self):
        whole = whole_zone(1, 2)
        self.assertTrue(whole == Zone(1, 2, ((7, 7), (None, 7))))
        self.assertTrue(Zone(1, 2, ((0, -3), (2, 0))) == Zone(1, 2, ((-1, 0), (0, 0))))
        self.assertTrue(Z == Zone(2, 2, Z.bounds))
        for other in (whole_zone(1, 4), whole_zone(2, 2), Zone(1, 2, ((0, 0), (9, 0))), NONE, Z):
            self.assertFalse(whole == other)
            self.assertTrue(whole != other)
        self.assertFalse(NONE == Zone(1, 2, ((0, -3), (2, 0))))
        self.assertFalse(NONE == Zone(2, 1, ((0, -3, 0), (2, 0, 0), (0, 0, 0))))
        self.assertFalse(Zone(1, 1, ((0, -1), (1, 0))) == Zone(1, 2, ((0, -2), (2, 0))))
        for value in EVERYTHING:
            self.assertFalse(Z == value)
            self.assertTrue(Z != value)
            self.assertFalse(value == Z)

    def test_zones_are_equal_exactly_if_they_have_the_same_points(self):
        for one, other in zip(ZONES, ZONES[1:]):
            if one.clocks == other.clocks and one.unit == other.unit:
                same = one.is_within(other) and other.is_within(one)
                self.same(one == other, same)
                self.same(one != other, not same)
        for zone in FULL:
            self.same(Zone(zone.clocks, zone.unit, zone.bounds) == zone, True)

    def test_iterating_is_refused(self):
        with self.assertRaises(TypeError):
            iter(Z)
        with self.assertRaises(TypeError):
            list(Z)
        with self.assertRaises(TypeError):
            0 in Z


class Points(Case):
    def test_has(self):
        for zone in ZONES[::2]:
            for row in near_points(zone):
                self.same(zone.has(told(row)), is_point(zone, row))

    def test_bounds_that_do_not_count(self):
        # Readings are from 0 on: at (0, i), as at (i, i), None and a member above 0 are the same as 0.
        for bound in (None, 0, 3):
            zone = Zone(1, 1, ((bound, bound), (2, bound)))
            self.same((zone.bounds, zone.told[0][0]), (((0, 0), (2, 0)), bound))
            self.same([zone.has(((top, 2),)) for top in (1, 3)], [True, True])
            self.same(zone.has(((5, 2),)), False)
        for place in (0, 1):
            rows = [[0, 0], [5, 0]]
            rows[place][place] = -1
            zone = Zone(1, 1, tuple(map(tuple, rows)))
            self.same((zone.is_empty, zone.bounds, zone.has(((1, 1),))), (True, None, False))
            self.same(zone.is_empty_round((place,)), True)

    def test_equality_is_let(self):
        zone = Zone(2, 3, ((0, -1, 0), (4, 0, -2), (None, None, 0)))
        self.same(zone.has(((1, 3), (1, 1))), True)
        self.same(zone.has(((4, 3), (2, 1))), True)
        self.same(zone.has(((4, 3), (2 * 10 ** 50 - 1, 10 ** 50))), False)
        self.same(zone.has(((333, 1000), (5, 1))), False)

    def test_wrong_readings(self):
        wrong = NO_TUPLES + ((), ((0, 1),), ((0, 1),) * 3, ((0, 1), (-1, 2)), ((0, 1), (2, 4)), ((True, 1), (0, 1)),
                             ([0, 1], (0, 1)), ((0, 1), (LONG, 1)), ((0, 1), (1, LONG)), ((0, 1), None), (0, 1))
        for zone in (Z, Zone(2, 1, ((0, -3, 0), (2, 0, 0), (0, 0, 0)))):
            self.all_refused(InvalidReadings, zone.has, wrong)
        self.same(whole_zone(1, 1).has(((MOST, 1),)), True)

    def test_the_least_point(self):
        for zone in FULL:
            row = numbers(zone.least())
            self.assertTrue(is_point(zone, row))
            self.assertEqual(row, tuple([Fraction(-bound, zone.unit) for bound in zone.bounds[0][1:]]))
            for other in near_points(zone):
                if is_point(zone, other):
                    self.assertTrue(all([x <= y for x, y in zip(row, other)]))
        for zone in EMPTY:
            self.refused(Refused, zone.least, reason=("empty",))

    def test_zones_of_one_point(self):
        for readings, unit in ((((1, 2), (3, 1)), 2), (((0, 1),), 1), (((1, 64), (4, 1), (63, 64)), 64)):
            zone = point_zone(readings, unit)
            self.same((zone.clocks, zone.unit, zone.least(), zone.is_empty), (len(readings), unit, readings, False))
            for i, j in product(range(len(readings) + 1), repeat=2):
                self.same(zone.edge(i, j), readings)
            self.same([zone.has(readings), zone.has(((2, 7),) * len(readings))], [True, False])
            self.same(zone.bounds, zone.told)

    def test_edges(self):
        for zone in FULL:
            for i, j in product(range(zone.clocks + 1), repeat=2):
                found = zone.edge(i, j)
                if zone.bounds[i][j] is None:
                    self.same(found, None)
                else:
                    row = (Fraction(0),) + numbers(found)
                    self.assertTrue(is_point(zone, row[1:]))
                    self.assertEqual((row[i] - row[j]) * zone.unit, zone.bounds[i][j])
        for zone in EMPTY:
            self.refused(Refused, zone.edge, 0, 1, reason=("empty",))

    def test_edge_refuses(self):
        for zone in (NONE, whole_zone(1, 1)):
            self.all_refused(InvalidNumber, lambda i: zone.edge(i, "a"), NO_INTEGERS + (2, -1), "given")
            self.all_refused(InvalidNumber, lambda j: zone.edge(0, j), NO_INTEGERS + (2, -1), "given")


class Closed(Case):
    def test_the_closed_form_has_the_least_sums_of_rows(self):
        for zone in FULL:
            size = zone.clocks + 1
            wanted = tuple([tuple([least_sum(zone, i, j) for j in range(size)]) for i in range(size)])
            self.same(zone.bounds, wanted)

    def test_the_closed_form_has_the_same_points(self):
        for zone in FULL[::3]:
            again = Zone(zone.clocks, zone.unit, zone.bounds)
            self.same(again.bounds, zone.bounds)
            for row in near_points(zone):
                self.same(again.has(told(row)), is_point(zone, row))

    def test_where_none_stands_the_difference_is_as_great_as_one_likes(self):
        zone = whole_zone(2, 2)
        self.same(zone.bounds, ((0, 0, 0), (None, 0, None), (None, None, 0)))
        for far in (1, 10 ** 9):
            limit = Zone(2, 2, ((0, 0, 0), (None, 0, far), (None, None, 0)))
            row = numbers(zone.outside(limit))
            self.assertTrue((row[0] - row[1]) * 2 > far)

    def test_a_point_or_a_round(self):
        for zone in ZONES:
            found = zone.empty_round()
            rows = counted(zone)
            size = zone.clocks + 1
            rounds = [row for many in range(1, size + 1) for row in product(range(size), repeat=many)]
            below = [row for row in rounds if (row_sum(rows, row + row[:1]) or 0) < 0]
            self.same(found is not None, zone.is_empty)
            self.same(bool(below), zone.is_empty)
            if zone.is_empty:
                self.same(zone.bounds, None)
                self.assertIn(found, below)
            for row in rounds:
                self.same(zone.is_empty_round(row), row in below)

    def test_rounds_of_any_length(self):
        self.same(NONE.is_empty_round((0, 1)), True)
        self.same(NONE.is_empty_round((1, 0) * 500), True)
        self.same(NONE.is_empty_round((0, 0, 1, 1)), True)
        self.same(NONE.is_empty_round((0, 1, 1, 0, 0)), True)
        by_none = Zone(2, 1, ((0, -3, 0), (2, 0, None), (None, 0, 0)))
        self.same([by_none.is_empty_round(row) for row in ((0, 1), (0, 1, 2), (0, 2, 1))], [True, False, False])

    def test_rounds_near_by(self):
        wrong = [(), (0,), (1,), (2, 0), (-1, 0), [0, 1], (True, 0), (0, True), (False, 1), ("0", 1), (None, 0),
                 ((0, 1),), ([0], 1), (LONG, 0), (0, 1, 2), 0]
        self.judged(NONE.is_empty_round, [(0, 1), (1, 0), (0, 1, 1), (1, 0, 1, 0)], wrong)
        self.judged(Z.is_empty_round, [], wrong + [(0, 1), (1, 0), (1, 2)])


class Pairs(Case):
    def pairs(self):
        chosen = random.Random(6)
        for clocks in (1, 2, 3):
            for _ in range(90):
                unit = chosen.choice((1, 2, 64))
                one, other = [Zone(clocks, unit, random_bounds(chosen, clocks + 1)) for _ in range(2)]
                yield one, other
                # What both have is within each of them, and so it is often without a point outside.
                yield one.met(other), other
                yield one.met(other), one

    def test_within_and_outside(self):
        for one, other in self.pairs():
            point = one.outside(other)
            self.same(one.is_within(other), point is None)
            if point is not None:
                self.same((one.has(point), other.has(point)), (True, False))
            elif one.clocks < 3:
                self.assertFalse([row for row in near_points(one) if is_point(one, row) and not is_point(other, row)])

    def test_outside_of_a_zone_that_is_far_away(self):
        """Where a zone goes on without end, all of its points can lie beyond the bound of the other one."""
        chosen = random.Random(9)
        for clocks in (1, 2, 3):
            for _ in range(150):
                unit = chosen.choice((1, 2, 64))
                rows = [[None if i != j and chosen.randrange(3) else 0 for j in range(clocks + 1)]
                        for i in range(clocks + 1)]
                for _ in range(clocks):
                    i, j = chosen.randrange(clocks + 1), chosen.randrange(clocks + 1)
                    rows[i][j] = 0 if i == j else -chosen.choice((1, 7, 50, MOST))
                one = Zone(clocks, unit, tuple([tuple(row) for row in rows]))
                other = Zone(clocks, unit, random_bounds(chosen, clocks + 1))
                point = one.outside(other)
                self.same(one.is_within(other), point is None)
                if point is not None:
                    # Where all points are far away a reading can have some digits more than may be passed.
                    self.same((is_point(one, numbers(point)), is_point(other, numbers(point))), (True, False))

    def test_the_point_outside_is_the_nearest_one(self):
        one = Zone(1, 3, ((3, -11), (None, None)))
        self.same(one.outside(Zone(1, 3, ((3, None), (9, 6)))), ((11, 3),))
        self.same(one.outside(Zone(1, 3, ((3, None), (10, 6)))), ((11, 3),))
        self.same(one.outside(Zone(1, 3, ((3, None), (11, 6)))), ((4, 1),))
        self.same(Zone(1, 1, ((0, -5), (None, 0))).outside(Zone(1, 1, ((0, 0), (1, 0)))), ((5, 1),))
        self.same(whole_zone(2, 1).outside(Zone(2, 1, ((0, 0, 0), (None, 0, -3), (None, None, 0)))), ((0, 1), (0, 1)))

    def test_within_by_closed_forms(self):
        for one, other in self.pairs():
            if other.is_empty or one.is_empty:
                self.same(one.is_within(other), one.is_empty)
            else:
                pairs = [(x, y) for row, low in zip(one.bounds, other.bounds) for x, y in zip(row, low)]
                self.same(one.is_within(other), all([y is None or (x is not None and x <= y) for x, y in pairs]))

    def test_edges_of_within(self):
        small, great = Zone(1, 2, ((0, -1), (3, 0))), Zone(1, 2, ((0, -1), (4, 0)))
        empty = Zone(1, 2, ((0, -3), (2, 0)))
        self.same([small.is_within(great), great.is_within(small), small.is_within(small)], [True, False, True])
        self.same([small.outside(great), great.outside(small)], [None, ((2, 1),)])
        self.same([empty.is_within(small), empty.is_within(empty), small.is_within(empty)], [True, True, False])
        self.same([empty.outside(small), empty.outside(empty)], [None, None])
        self.same(small.has(small.outside(empty)), True)
        self.same([whole_zone(1, 2).is_within(great), great.is_within(whole_zone(1, 2))], [False, True])

    def test_met(self):
        for one, other in self.pairs():
            both = one.met(other)
            self.same((both.clocks, both.unit), (one.clocks, one.unit))
            rows = [[min([bound for bound in pair if bound is not None], default=None) for pair in zip(*rows)]
                    for rows in zip(one.told, other.told)]
            self.same(both.told, tuple([tuple(row) for row in rows]))
            if one.clocks < 3:
                for row in list(near_points(one))[::3]:
                    self.same(both.has(told(row)), is_point(one, row) and is_point(other, row))
            self.assertTrue(both == other.met(one))

    def test_others_that_do_not_fit(self):
        wrong = EVERYTHING + (whole_zone(1, 2), whole_zone(3, 2), whole_zone(2, 4), NONE)
        for zone in (Z, Zone(2, 2, ((0, -3, 0), (2, 0, 0), (0, 0, 0)))):
            for call in (zone.is_within, zone.outside, zone.met):
                self.all_refused(InvalidZone, call, wrong)

    def test_finer(self):
        for zone in ZONES[::5]:
            for times in (1, 2, 64 // zone.unit):
                if zone.unit * times <= 64:
                    finer = zone.finer(times)
                    self.same((finer.clocks, finer.unit), (zone.clocks, zone.unit * times))
                    rows = [tuple([None if bound is None else bound * times for bound in row]) for row in zone.told]
                    self.same(finer.told, tuple(rows))
                    self.same(finer.is_empty, zone.is_empty)
                    for row in list(near_points(zone))[::7]:
                        self.same(finer.has(told(row)), is_point(zone, row))

    def test_units_of_finer_zones(self):
        self.same(Z.finer(32).unit, 64)
        self.same(whole_zone(1, 64).finer(1).unit, 64)
        self.same(whole_zone(3, 1).finer(64).unit, 64)
        self.all_refused(InvalidNumber, Z.finer, NO_INTEGERS + (0, -1, 33, 64, MOST), "given")
        self.all_refused(InvalidNumber, whole_zone(1, 64).finer, (2, 64), "given")
        # Results can have longer integers than what is passed.
        zone = Zone(1, 1, ((0, -MOST), (MOST, 0))).finer(64)
        self.same((zone.told, zone.least()), (((0, -64 * MOST), (64 * MOST, 0)), ((MOST, 1),)))
        self.same(zone.met(zone).told, zone.told)
        self.same((zone == zone.met(zone), zone.has(((MOST, 1),)), zone.edge(1, 0)), (True, True, ((MOST, 1),)))


class Made(Case):
    def test_the_whole_zone(self):
        for clocks in (1, 2, 3):
            for unit in (1, 7, 64):
                zone = whole_zone(clocks, unit)
                self.same((zone.clocks, zone.unit, zone.is_empty), (clocks, unit, False))
                self.same(zone.has(((MOST, 1),) + ((0, 1),) * (clocks - 1)), True)
                for i, j in product(range(clocks + 1), repeat=2):
                    self.same(zone.bounds[i][j], 0 if i in (0, j) else None)

    def test_the_whole_zone_refuses(self):
        self.all_refused(InvalidNumber, lambda clocks: whole_zone(clocks, 99), NO_INTEGERS + (0, 4, -1), "given")
        self.all_refused(InvalidNumber, lambda unit: whole_zone(1, unit), NO_INTEGERS + (0, 65, -1), "given")

    def test_a_zone_of_one_point_refuses(self):
        wrong = NO_TUPLES + ((), ((0, 1),) * 4, (0, 1), ((-1, 1),), ((2, 4),), ((True, 1),), ((0, True),), ([0, 1],),
                             ((LONG, 1),), ((1, LONG),), ((0, 1), None), (((0, 1),),))
        self.all_refused(InvalidReadings, lambda readings: point_zone(readings, 0), wrong)
        self.all_refused(InvalidNumber, lambda unit: point_zone(((1, 3),), unit), NO_INTEGERS + (0, 65, -1), "given")
        self.refused(InvalidOperation, point_zone, ((1, 3),), 2)
        self.refused(InvalidOperation, point_zone, ((1, 1), (1, 128)), 64)
        self.refused(InvalidOperation, point_zone, ((1, MOST),), 1)

    def test_a_point_far_away(self):
        zone = point_zone(((MOST, 1), (0, 1)), 64)
        self.same((zone.least(), zone.bounds[1]), (((MOST, 1), (0, 1)), (64 * MOST, 0, 64 * MOST)))

    def test_readings_of_a_zone_can_be_above_four(self):
        self.same(point_zone(((9, 1),), 1).least(), ((9, 1),))

"""Stage 3: classes of readings, against points that are tried."""
from fractions import Fraction
from itertools import product

from anymargin import errors
from anymargin.clock import classes as module
from anymargin.clock.classes import (
    borders, class_of, classes_within, is_by, is_class, is_in, keeps, next_class, put_back, told_point)
from anymargin.errors import InvalidClass, InvalidNumber, InvalidOperation, InvalidReadings
from tests.support import LONG, MOST, NO_FRACTIONS, NO_INTEGERS, NO_TUPLES, Case, numbers, told

EXAMPLES = """
>>> ONE = class_of(((1, 2), (3, 1), (5, 2)))
>>> [ONE, told_point(ONE), class_of(((1, 3), (1, 2))), next_class(((4,), ((0,),)))]
[((0, 3, 2), ((1,), (0, 2))), ((1, 2), (3, 1), (5, 2)), ((0, 0), ((), (0,), (1,))), None]
>>> [next_class(ONE), next_class(next_class(ONE)), put_back(ONE, (0,)), put_back(ONE, (0, 2))]
[((0, 3, 2), ((), (1,), (0, 2))), ((1, 3, 3), ((0, 2), (1,))), ((0, 3, 2), ((0, 1), (2,))), ((0, 3, 0), ((0, 1, 2),))]
>>> [keeps(ONE, ((0, 1), (3, 3), (2, 3))), keeps(ONE, ((0, 0), (0, 4), (0, 4))), is_class(1, ((4,), ((), (0,)))), is_class(2, ((0, 0), ((1, 0),)))]
[True, False, False, False]
>>> LESS = ((0, 0), ((), (0,), (1,)))
>>> [len(borders(LESS)), borders(((0,), ((), (0,))))]
[7, (((0,), ((), (0,))), ((0,), ((0,),)), ((1,), ((0,),)))]
>>> [is_by(LESS, ((0, 1), (1, 1))), is_by(LESS, ((1, 1), (0, 1))), len(classes_within((1, 1)))]
[True, False, 11]
"""

NO_CLASSES = NO_TUPLES + (
    (), (1,), ((0,),), ((0,), ((0,),), ()), ((), ((),)), ((), ()), ((0,), ()), ((0,), ((),)), ((0,), ((), ())),
    ((0,), ((), (0,), ())), ((0,), ((0,), ())), ((0,), ((0,), (0,))), ((0,), ((0, 0),)), ((0,), ((1,),)),
    ((0,), ((0, 1),)), ((5,), ((0,),)), ((-1,), ((0,),)), ((LONG,), ((0,),)), ((4,), ((), (0,))), ((True,), ((0,),)),
    ((0,), ((False,),)), ((0,), (0,)), ((0,), ([0],)), ((0,), [(0,)]), ([0], ((0,),)), [(0,), ((0,),)], (0, ((0,),)),
    ((0,), (None, (0,))), ((0, 0), ((1, 0),)), ((0, 0), ((0,),)), ((0, 0), ((), (0,))), ((0, 0), ((), (0,), (), (1,))),
    ((0, 0), ((0, 1), (1,))), ((0, 0, 0, 0), ((0, 1, 2, 3),)), ((0, True), ((0, 1),)), ((0, 0), ((0, True),)),
    ((4, 0), ((), (0, 1))), ((4, 0), ((1,), (0,))), ((0.5,), ((0,),)), (("0",), ((0,),)), ((0,), (("0",),)))

ONE = ((0, 3, 2), ((1,), (0, 2)))


def grid(clocks, bottom, most=4):
    """All readings that are multiples of 1 / bottom, as numbers."""
    return list(product([Fraction(top, bottom) for top in range(most * bottom + 1)], repeat=clocks))


def all_classes(clocks):
    """All classes: with steps of 1 / (clocks + 1) each one has a point."""
    return sorted({class_of(told(row)) for row in grid(clocks, clocks + 1)})


CLASSES = {clocks: all_classes(clocks) for clocks in (1, 2, 3)}
EVERY = CLASSES[1] + CLASSES[2] + CLASSES[3]
SOME = CLASSES[1] + CLASSES[2] + CLASSES[3][::23]


def rising(rests):
    """The rests above 0, once each, in their sequence."""
    return sorted({value for value in rests if value > 0})


class Classes(Case):
    def test_examples(self):
        self.examples(EXAMPLES, vars(module).copy(), vars(errors))

    def test_constants(self):
        self.same((module.MOST_NUMBER, module.MOST_CLOCKS), (4, 3))

    def test_the_class_of_readings(self):
        for clocks, bottom in ((1, 6), (2, 3), (3, 2)):
            for row in grid(clocks, bottom):
                wholes, order = class_of(told(row))
                rests = [value - value // 1 for value in row]
                self.same(wholes, tuple([int(value // 1) for value in row]))
                steps = [0] + rising(rests)
                self.same(order, tuple([tuple([at for at in range(clocks) if rests[at] == step]) for step in steps]))

    def test_edges_of_readings(self):
        self.same(class_of(((0, 1),)), ((0,), ((0,),)))
        self.same(class_of(((4, 1), (4, 1))), ((4, 4), ((0, 1),)))
        self.same(class_of(((4, 1), (7, 2))), ((4, 3), ((0,), (1,))))
        self.same(class_of(((1, 2), (3, 2), (7, 2))), ((0, 1, 3), ((), (0, 1, 2))))
        self.same(class_of(((2, 3), (1, 3), (1, 2))), ((0, 0, 0), ((), (1,), (2,), (0,))))
        self.same(class_of(((1, MOST), (MOST - 1, MOST), (1, MOST - 1))), ((0, 0, 0), ((), (0,), (2,), (1,))))

    def test_class_of_refuses(self):
        wrong = NO_TUPLES + ((), (0,), (1, 2), ((0, 1),) * 4, ((-1, 2),), ((9, 2),), ((4 * MOST // 4 + 1, MOST // 4),),
                             ((5, 1), (0, 1)), ((2, 4),), ((True, 1),), ((0, True),), ([0, 1],), ((0, 1), None),
                             ((1, LONG),), ((0, 1), (0, 1), (0, 2)))
        self.all_refused(InvalidReadings, class_of, wrong)
        self.all_refused(InvalidReadings, lambda value: class_of((value,)), NO_FRACTIONS)

    def test_is_class(self):
        for clocks in (1, 2, 3):
            self.judged(lambda value: is_class(clocks, value), CLASSES[clocks], NO_CLASSES)
            others = [cls for cls in EVERY if len(cls[0]) != clocks]
            self.judged(lambda value: is_class(clocks, value), [], others[::9])

    def test_each_form_near_by_is_judged(self):
        groups = [(), (0,), (1,), (0, 1), (1, 0), (0, 0), (True,), (False, 1), [0]]
        orders = [row for many in range(4) for row in product(groups, repeat=many)]
        for wholes in ((0, 0), (4, 0), (3, 4), (4, 4), (5, 0)):
            right = {order for known, order in CLASSES[2] if known == wholes}
            for order in orders:
                plain = [1 for group in order for clock in group if isinstance(clock, bool)] == []
                tuples = all([isinstance(group, tuple) for group in order])
                self.same(is_class(2, (wholes, order)), plain and tuples and order in right)

    def test_is_class_refuses(self):
        self.all_refused(InvalidNumber, lambda clocks: is_class(clocks, 0), NO_INTEGERS + (0, 4, -1), "given")

    def test_told_point(self):
        for cls in EVERY:
            readings = told_point(cls)
            self.same(class_of(readings), cls)
            groups = len(cls[1])
            for place, group in enumerate(cls[1]):
                for clock in group:
                    wanted = cls[0][clock] + Fraction(place, groups)
                    self.assertEqual(Fraction(*readings[clock]), wanted)

    def test_is_in(self):
        for cls in CLASSES[1] + CLASSES[2]:
            for row in grid(len(cls[0]), 3):
                self.same(is_in(cls, told(row)), class_of(told(row)) == cls)

    def test_each_function_refuses_what_is_no_class(self):
        for call in (told_point, next_class, borders):
            self.all_refused(InvalidClass, call, NO_CLASSES)
        for call in (is_in, put_back, keeps, is_by):
            self.all_refused(InvalidClass, lambda cls: call(cls, 0), NO_CLASSES)

    def test_readings_are_refused(self):
        wrong = NO_TUPLES + ((), ((0, 1),), ((0, 1), (0, 1)), ((0, 1),) * 4, ((0, 1), (0, 1), (9, 2)),
                             ((0, 1), (0, 1), (-1, 2)), ((0, 1), (2, 4), (0, 1)), ((False, 1), (0, 1), (0, 1)),
                             ([0, 1], (0, 1), (0, 1)), ((0, 1), (0, 1), (4 * 10 ** 50 + 1, 10 ** 50)))
        for call in (is_in, is_by):
            self.all_refused(InvalidReadings, lambda readings: call(ONE, readings), wrong)
            self.refused(InvalidClass, call, ((0,), ()), ((9, 2),))


class Moves(Case):
    def waited(self, row):
        """The first other readings by which the class of the row is left, or some just behind them."""
        rests = [value - value // 1 for value in row]
        if 0 in rests:
            # Half of what leads to the next whole reading.
            wait = (1 - max(rests)) / 2
        else:
            wait = 1 - max(rests)
        return [value + wait for value in row]

    def test_the_next_class(self):
        for cls in EVERY:
            ends = 4 in [cls[0][clock] for clock in cls[1][0]]
            if ends:
                self.same(next_class(cls), None)
            else:
                self.same(next_class(cls), class_of(told(self.waited(numbers(told_point(cls))))))

    def test_from_all_readings_of_a_class_one_comes_to_the_same_next_class(self):
        for row in grid(2, 6) + grid(3, 2):
            found = next_class(class_of(told(row)))
            if found is not None:
                self.same(found, class_of(told(self.waited(row))))

    def test_edges_of_the_next_class(self):
        self.same(next_class(((4, 0), ((0,), (1,)))), None)
        self.same(next_class(((3, 0), ((1,), (0,)))), ((3, 0), ((), (1,), (0,))))
        self.same(next_class(((3, 0), ((), (1,), (0,)))), ((4, 0), ((0,), (1,))))
        self.same(next_class(((3,), ((), (0,)))), ((4,), ((0,),)))
        self.same(next_class(((1, 1, 2), ((), (0, 1, 2)))), ((2, 2, 3), ((0, 1, 2),)))

    def test_put_back(self):
        for cls in CLASSES[1] + CLASSES[2] + CLASSES[3][::5]:
            clocks = range(len(cls[0]))
            row = numbers(told_point(cls))
            for bits in product((False, True), repeat=len(cls[0])):
                lot = tuple([clock for clock in clocks if bits[clock]])
                wanted = class_of(told([0 if bits[clock] else row[clock] for clock in clocks]))
                self.same(put_back(cls, lot), wanted)

    def test_all_readings_of_a_class_lead_to_one_class(self):
        for row in grid(3, 2):
            cls = class_of(told(row))
            self.same(put_back(cls, (0, 2)), class_of(told([0, row[1], 0])))

    def test_put_back_refuses(self):
        wrong = NO_TUPLES + ((3,), (-1,), (1, 0), (0, 0), (True,), (False, 1), ("0",), (None,), ((0,),), ([0],), (LONG,))
        self.all_refused(InvalidOperation, lambda clocks: put_back(ONE, clocks), wrong)
        self.refused(InvalidOperation, put_back, ((0,), ((0,),)), (1,))
        self.same(put_back(ONE, ()), ONE)


class Bounds(Case):
    def test_a_class_keeps_bounds_as_each_of_its_readings_does(self):
        pairs = [(low, high) for low in range(5) for high in range(low, 5)]
        for row in grid(1, 4):
            for low, high in pairs:
                self.same(keeps(class_of(told(row)), ((low, high),)), low <= row[0] <= high)
        for row in grid(2, 3)[::5]:
            for one, other in product(pairs, repeat=2):
                kept = one[0] <= row[0] <= one[1] and other[0] <= row[1] <= other[1]
                self.same(keeps(class_of(told(row)), (one, other)), kept)

    def test_equality_is_let(self):
        self.same(keeps(((4,), ((0,),)), ((4, 4),)), True)
        self.same(keeps(((3,), ((), (0,))), ((3, 4),)), True)
        self.same(keeps(((3,), ((), (0,))), ((3, 3),)), False)
        self.same(keeps(((3,), ((0,),)), ((3, 3),)), True)
        self.same(keeps(((3,), ((), (0,))), ((4, 4),)), False)

    def test_keeps_refuses(self):
        good = (0, 4)
        wrong = NO_TUPLES + ((), (good,), (good, good), (good,) * 4, (good, good, (2, 1)), (good, good, (0, 5)),
                             (good, good, (-1, 4)), (good, good, (True, 4)), (good, good, (0, True)), (good, good, [0, 4]),
                             (good, good, (0,)), (good, good, (0, 1, 2)), (good, good, None), [good, good, good],
                             (good, good, ("0", 4)), (good, good, (0, LONG)), (good, good, (None, 4)))
        self.all_refused(InvalidOperation, lambda guards: keeps(ONE, guards), wrong)


class Closures(Case):
    def is_limit(self, cls, row):
        """Whether points of the class are as near to the row as one likes: those towards its inner point."""
        inner = numbers(told_point(cls))
        return class_of(told([value + (point - value) / 1000 for value, point in zip(row, inner)])) == cls

    def test_the_closure_has_the_limits_of_the_readings(self):
        for cls in CLASSES[1] + CLASSES[2][::3]:
            for row in grid(len(cls[0]), 4):
                self.same(is_by(cls, told(row)), self.is_limit(cls, row))
        for cls in CLASSES[3][::61]:
            low = cls[0]
            for row in grid(3, 3, 1):
                near = [value + number for value, number in zip(row, low)]
                if max(near) <= 4:
                    self.same(is_by(cls, told(near)), self.is_limit(cls, near))

    def test_the_borders_are_the_classes_of_the_closure(self):
        for cls in CLASSES[1] + CLASSES[2] + CLASSES[3][::17]:
            many = len(cls[1])
            rows = [[value + number for value, number in zip(row, cls[0])] for row in grid(len(cls[0]), 4, 1)]
            inside = [told(row) for row in rows if max(row) <= 4 and is_by(cls, told(row))]
            found = borders(cls)
            self.same(found, tuple(sorted({class_of(readings) for readings in inside})))
            self.assertEqual(len(found), 2 ** many - 1)
            self.assertIn(cls, found)

    def test_a_border_of_a_border_is_a_border(self):
        for cls in SOME:
            found = set(borders(cls))
            for border in found:
                self.assertTrue(set(borders(border)) <= found)

    def test_whole_classes(self):
        for cls in SOME:
            for border in borders(cls):
                self.same(is_by(cls, told_point(border)), True)

    def test_edges(self):
        cls = ((3, 0), ((), (0,), (1,)))
        self.same(is_by(cls, ((4, 1), (1, 1))), True)
        self.same(is_by(cls, ((3, 1), (1, 1))), True)
        self.same(is_by(cls, ((4, 1), (0, 1))), False)
        self.same(is_by(cls, ((7, 2), (1, 2))), True)
        self.same(is_by(cls, ((7, 2), (1, 3))), False)
        self.same(is_by(((4,), ((0,),)), ((4, 1),)), True)
        self.same(is_by(((0, 0), ((), (0, 1))), ((1, 3), (1, 2))), False)
        self.same(is_by(((0,), ((0,),)), ((1, MOST),)), False)
        self.same(borders(((2, 2), ((0, 1),))), (((2, 2), ((0, 1),)),))


class Within(Case):
    def test_all_classes_within_limits(self):
        for clocks, bottom in ((1, 2), (2, 3)):
            for limits in product(range(5), repeat=clocks):
                rows = [row for row in grid(clocks, bottom) if all([x <= y for x, y in zip(row, limits)])]
                self.same(classes_within(limits), tuple(sorted({class_of(told(row)) for row in rows})))

    def test_three_clocks(self):
        self.same(classes_within((4, 4, 4)), tuple(CLASSES[3]))
        for limits in ((0, 0, 0), (0, 4, 1), (2, 1, 3)):
            bounds = tuple([(0, limit) for limit in limits])
            self.same(classes_within(limits), tuple([cls for cls in CLASSES[3] if keeps(cls, bounds)]))

    def test_it_refuses(self):
        wrong = NO_TUPLES + ((), (5,), (-1,), (0, 5), (0,) * 4, (True,), (0, False), (None,), ("1",), ((1,),), ([1],),
                             (LONG,))
        self.all_refused(InvalidOperation, classes_within, wrong)

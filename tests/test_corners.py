"""Stage 4: corners of closures, and where they lead."""
from fractions import Fraction
from itertools import product

from anymargin import errors
from anymargin.base.fractions import are_weights
from anymargin.clock import corners as module
from anymargin.clock.classes import borders, class_of, is_by, keeps, next_class, put_back, told_point
from anymargin.clock.corners import back_corners, corner_moves, corners, lead, moved, parts, point
from anymargin.errors import InvalidClass, InvalidNumber, InvalidOperation, InvalidReadings, Refused
from tests.support import LONG, MOST, NO_INTEGERS, NO_TUPLES, Case, numbers, pair, told
from tests.test_classes import CLASSES, EVERY, NO_CLASSES, SOME, grid

EXAMPLES = """
>>> ONE, TWO = ((1, 0), ((0,), (1,))), ((1, 0), ((), (0,), (1,)))
>>> [corners(ONE), corners(TWO), parts(ONE, ((1, 1), (1, 3))), parts(ONE, ((1, 1), (1, 1))), parts(ONE, ((3, 2), (1, 3)))]
[((1, 0), (1, 1)), ((1, 0), (1, 1), (2, 1)), ((2, 3), (1, 3)), ((0, 1), (1, 1)), None]
>>> [moved(ONE, ("wait",)) == TWO, corner_moves(ONE, ("wait",)), moved(TWO, ("wait",)), corner_moves(TWO, ("wait",))]
[True, (((0, 0), (2, 1)), ((1, 0),)), ((1, 1), ((1,), (0,))), (((1, 1),), ((0, 0),), ((1, 0),))]
>>> [lead(TWO, ("wait",), ((1, 2), (1, 4), (1, 4))), point(ONE, ((2, 3), (1, 3))), corner_moves(TWO, ("door", (1,))), back_corners(ONE, ("wait",), 2)]
[((1, 2), ((1, 4), (3, 4))), ((1, 1), (1, 3)), (((0, 0),), ((0, 0),), ((1, 0),)), (0,)]
>>> moved(((4,), ((0,),)), ("wait",))
raises Refused(('end',))
"""

ONE, TWO = ((1, 0), ((0,), (1,))), ((1, 0), ((), (0,), (1,)))
WAIT = ("wait",)
LAST = ((4, 0), ((0,), (1,)))

NO_MOVES = NO_TUPLES + ((), ("wait", ()), ("wait", 0), ("WAIT",), ["wait"], ("door",), ("door", 0), ("door", [0]),
                        ("door", (2,)), ("door", (-1,)), ("door", (1, 0)), ("door", (0, 0)), ("door", (True,)),
                        ("door", (False, 1)), ("door", (0,), ()), ("doors", (0,)), ["door", (0,)], ("door", None),
                        ("door", ("0",)), ("door", ((0,),)), ("door", (LONG,)), (("door",), (0,)), ("wait", ("door", ())))

NO_WEIGHTS = NO_TUPLES + ((), (1, 1), ((1, 1),), ((1, 2),) * 2, ((1, 2), (1, 2), (1, 2)), ((1, 1), (1, 1), (-1, 1)),
                          ((1, 2), (1, 4), (1, 8)), ((1, 4),) * 4, ((2, 4), (1, 4), (1, 4)), [(1, 2), (1, 4), (1, 4)],
                          ((1, 2), (1, 2), [0, 1]), ((True, 1), (0, 1), (0, 1)), ((1, True), (0, 1), (0, 1)),
                          ((1, 1), (False, 1), (0, 1)), ((1, 1), (0, 1), None), ((1, LONG), (1, 2), (1, 2)))


def doors(clocks):
    """All moves through doors."""
    found = []
    for bits in product((False, True), repeat=clocks):
        found.append(("door", tuple([clock for clock in range(clocks) if bits[clock]])))
    return found


def moves(cls):
    """All moves of a class for which there is a moved class."""
    return doors(len(cls[0])) + ([WAIT] if next_class(cls) else [])


def some_weights(many):
    """Some weights of so many corners, among them such as are 0."""
    found = [[0] * at + [1] + [0] * (many - at - 1) for at in range(many)]
    found.append([Fraction(1, many)] * many)
    found.append([Fraction(at + 1, many * (many + 1) // 2) for at in range(many)])
    if many > 1:
        found.append([Fraction(1, 3)] + [0] * (many - 2) + [Fraction(2, 3)])
    return [told(row) for row in found]


def summed(cls, weights):
    """The sum of the corners, each times its weight, as numbers."""
    rows = [[Fraction(*weight) * number for number in corner] for weight, corner in zip(weights, corners(cls))]
    return tuple([sum(column) for column in zip(*rows)])


class Corners(Case):
    def test_examples(self):
        self.examples(EXAMPLES, vars(module).copy(), vars(errors))

    def test_the_corner_k_has_one_more_in_the_last_k_groups(self):
        for cls in EVERY:
            groups = cls[1][1:]
            wanted = []
            for k in range(len(groups) + 1):
                up = [clock for group in groups[len(groups) - k:] for clock in group]
                wanted.append(tuple([number + (clock in up) for clock, number in enumerate(cls[0])]))
            self.same(corners(cls), tuple(wanted))
            self.assertEqual(len(set(wanted)), len(groups) + 1)
            for corner in wanted:
                self.same(is_by(cls, told(corner)), True)

    def test_each_whole_point_of_the_closure_is_a_corner(self):
        for cls in SOME:
            whole = [row for row in grid(len(cls[0]), 1) if is_by(cls, told(row))]
            self.assertEqual(sorted(corners(cls)), [tuple([int(value) for value in row]) for row in whole])

    def test_parts_and_points(self):
        for cls in CLASSES[1] + CLASSES[2][::2] + CLASSES[3][::61]:
            many = len(cls[1])
            rows = [[value + number for value, number in zip(row, cls[0])] for row in grid(len(cls[0]), 3, 1)]
            for row in rows:
                found = parts(cls, told(row))
                if max(row) > 4 or not is_by(cls, told(row)):
                    self.same(found, None)
                    continue
                self.same(are_weights(found), True)
                self.assertEqual(len(found), many)
                self.assertEqual(summed(cls, found), tuple(row))
                self.same(point(cls, found), told(row))
                # In the class itself exactly if no weight is 0.
                self.assertEqual((0, 1) not in found, class_of(told(row)) == cls)
                above = [corner for corner, weight in zip(corners(cls), found) if weight != (0, 1)]
                self.assertEqual(sorted(above), sorted(corners(class_of(told(row)))))

    def test_points_and_parts(self):
        for cls in EVERY[::3]:
            for weights in some_weights(len(cls[1])):
                readings = point(cls, weights)
                self.assertEqual(numbers(readings), summed(cls, weights))
                self.same(parts(cls, readings), weights)

    def test_points_of_the_closure_that_are_not_in_the_class(self):
        self.same(parts(TWO, ((1, 1), (0, 1))), ((1, 1), (0, 1), (0, 1)))
        self.same(parts(TWO, ((1, 1), (1, 1))), ((0, 1), (1, 1), (0, 1)))
        self.same(parts(TWO, ((2, 1), (1, 1))), ((0, 1), (0, 1), (1, 1)))
        self.same(parts(TWO, ((3, 2), (1, 1))), ((0, 1), (1, 2), (1, 2)))
        self.same(parts(((4,), ((0,),)), ((4, 1),)), ((1, 1),))
        self.same(parts(((3,), ((), (0,))), ((4, 1),)), ((0, 1), (1, 1)))

    def test_readings_above_four_are_in_no_closure(self):
        self.same(parts(((4,), ((0,),)), ((9, 2),)), None)
        self.same(parts(((3,), ((), (0,))), ((MOST, 1),)), None)
        self.same(parts(ONE, ((5, 1), (1, 2))), None)

    def test_results_can_have_longer_integers(self):
        weights = ((1, MOST), (1, MOST - 1), pair(1 - Fraction(1, MOST) - Fraction(1, MOST - 1)))
        self.refused(InvalidOperation, point, TWO, weights)
        found = parts(((0, 0), ((), (0,), (1,))), ((1, MOST), (1, MOST - 1)))
        self.assertEqual(sum(numbers(found)), 1)
        self.assertEqual(numbers(found)[2], Fraction(1, MOST))
        self.same(found[1], (1, MOST * (MOST - 1)))

    def test_wrong_classes_and_readings(self):
        self.all_refused(InvalidClass, corners, NO_CLASSES)
        for call in (parts, point, moved, corner_moves):
            self.all_refused(InvalidClass, lambda cls: call(cls, 0), NO_CLASSES)
        self.all_refused(InvalidClass, lambda cls: lead(cls, 0, 0), NO_CLASSES)
        self.all_refused(InvalidClass, lambda cls: back_corners(cls, 0, None), NO_CLASSES)
        wrong = NO_TUPLES + ((), ((0, 1),), ((0, 1),) * 3, ((0, 1), (-1, 2)), ((0, 1), (2, 4)), ((True, 1), (0, 1)),
                             ([0, 1], (0, 1)), ((0, 1), (1, LONG)), ((0, 1), (LONG, 1)), ((0, 1), None))
        self.all_refused(InvalidReadings, lambda readings: parts(ONE, readings), wrong)

    def test_wrong_weights(self):
        self.all_refused(InvalidOperation, lambda weights: point(TWO, weights), NO_WEIGHTS)
        self.all_refused(InvalidOperation, lambda weights: lead(TWO, WAIT, weights), NO_WEIGHTS)


class Moves(Case):
    def test_the_moved_class(self):
        for cls in EVERY:
            if next_class(cls):
                self.same(moved(cls, WAIT), next_class(cls))
            for move in doors(len(cls[0])):
                self.same(moved(cls, move), put_back(cls, move[1]))

    def test_where_corners_lead(self):
        for cls in EVERY[::2]:
            for move in moves(cls):
                goals = corners(moved(cls, move))
                wanted = []
                for corner in corners(cls):
                    if move == WAIT:
                        rows = [(tuple([number + wait for number in corner]), wait) for wait in (0, 1)]
                    else:
                        rows = [(tuple([0 if at in move[1] else corner[at] for at in range(len(corner))]), 0)]
                    pairs = [(goals.index(row), wait) for row, wait in rows if row in goals]
                    wanted.append(tuple(sorted(pairs)))
                self.same(corner_moves(cls, move), tuple(wanted))

    def test_from_each_to_each(self):
        for cls in EVERY:
            for move in moves(cls):
                rows = corner_moves(cls, move)
                self.assertTrue(all(rows))
                come = {goal for pairs in rows for goal, wait in pairs}
                self.assertEqual(sorted(come), list(range(len(moved(cls, move)[1]))))

    def test_waits_by_the_numbers_of_corners(self):
        for cls in EVERY:
            many = len(cls[1]) - 1
            if next_class(cls) and cls[1][0]:
                wanted = [((0, 0), (many + 1, 1))] + [((k, 0),) for k in range(1, many + 1)]
                self.same(corner_moves(cls, WAIT), tuple(wanted))
            elif next_class(cls):
                wanted = [((many - 1, 1),)] + [((k - 1, 0),) for k in range(1, many + 1)]
                self.same(corner_moves(cls, WAIT), tuple(wanted))

    def test_sums_of_steps_are_steps(self):
        for cls in EVERY[::4]:
            for move in moves(cls):
                for weights in some_weights(len(cls[1])):
                    wait, sums = lead(cls, move, weights)
                    self.same(are_weights(sums), True)
                    row = [value + Fraction(*wait) for value in summed(cls, weights)]
                    if move != WAIT:
                        self.same(wait, (0, 1))
                        row = [0 if at in move[1] else value for at, value in enumerate(row)]
                    self.assertEqual(summed(moved(cls, move), sums), tuple(row))

    def test_lead_goes_by_the_first_pairs(self):
        self.same(lead(ONE, WAIT, ((2, 3), (1, 3))), ((0, 1), ((2, 3), (1, 3), (0, 1))))
        for cls in SOME:
            for move in moves(cls):
                weights = some_weights(len(cls[1]))[-1]
                total, sums = Fraction(0), [Fraction(0)] * len(moved(cls, move)[1])
                for weight, pairs in zip(weights, corner_moves(cls, move)):
                    sums[pairs[0][0]] += Fraction(*weight)
                    total += Fraction(*weight) * pairs[0][1]
                self.same(lead(cls, move, weights), (pair(total), told(sums)))

    def test_bounds_that_both_classes_keep_are_kept_on_the_way(self):
        bounds = [(low, high) for low in range(5) for high in range(low, 5)]
        for cls in CLASSES[2][::5]:
            for guards in product(bounds[::2], repeat=2):
                if next_class(cls) and keeps(cls, guards) and keeps(next_class(cls), guards):
                    for weights in some_weights(len(cls[1])):
                        wait, sums = lead(cls, WAIT, weights)
                        for readings in (point(cls, weights), point(next_class(cls), sums)):
                            for value, (low, high) in zip(numbers(readings), guards):
                                self.assertTrue(low <= value <= high)

    def test_back_corners(self):
        for cls in EVERY[::2]:
            for move in moves(cls):
                rows = corner_moves(cls, move)
                for corner in range(len(moved(cls, move)[1])):
                    wanted = [at for at in range(len(rows)) if corner in [goal for goal, wait in rows[at]]]
                    self.same(back_corners(cls, move, corner), tuple(wanted))
                    self.assertTrue(wanted)

    def test_closures_lead_to_closures(self):
        for cls in SOME:
            for move in moves(cls):
                goal = moved(cls, move)
                for border in borders(cls):
                    weights = parts(cls, told_point(border))
                    self.same(is_by(goal, point(goal, lead(cls, move, weights)[1])), True)

    def test_there_is_no_next_class(self):
        for cls in EVERY:
            if next_class(cls) is None:
                self.refused(Refused, moved, cls, WAIT, reason=("end",))
                self.refused(Refused, corner_moves, cls, WAIT, reason=("end",))
                self.refused(Refused, back_corners, cls, WAIT, 0, reason=("end",))
                weights = some_weights(len(cls[1]))[0]
                self.refused(Refused, lead, cls, WAIT, weights, reason=("end",))

    def test_wrong_moves(self):
        for call in (moved, corner_moves):
            self.all_refused(InvalidOperation, lambda move: call(ONE, move), NO_MOVES)
            self.refused(InvalidOperation, call, LAST, ("wait", 1))
        self.all_refused(InvalidOperation, lambda move: lead(ONE, move, 0), NO_MOVES)
        self.all_refused(InvalidOperation, lambda move: lead(ONE, move, ((1, 2), (1, 2))), NO_MOVES)
        self.all_refused(InvalidOperation, lambda move: back_corners(ONE, move, 0), NO_MOVES)
        self.all_refused(InvalidOperation, lambda move: back_corners(ONE, move, None), NO_MOVES)
        self.same(moved(ONE, ("door", ())), ONE)

    def test_the_order_of_errors(self):
        self.refused(InvalidOperation, lead, LAST, WAIT, ((1, 1),))
        self.refused(Refused, lead, LAST, WAIT, ((1, 1), (0, 1)), reason=("end",))
        self.refused(Refused, back_corners, LAST, WAIT, True, reason=("end",))
        self.refused(InvalidOperation, back_corners, ONE, ("door", (2,)), 9)
        self.all_refused(InvalidNumber, lambda corner: back_corners(ONE, WAIT, corner), NO_INTEGERS + (3, -1), "given")
        self.all_refused(InvalidNumber, lambda corner: back_corners(TWO, WAIT, corner), (2, 3), "given")

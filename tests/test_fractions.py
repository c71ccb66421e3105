"""Stage 1: exact fractions, against those of Python's library."""
import random
from fractions import Fraction
from math import ceil, floor

from anymargin.base import checks
from anymargin.base import fractions as module
from anymargin.base.fractions import (
    are_weights, compared, fraction, greatest, halfway, is_fraction, least, less, over, plus, rest, simplest,
    steps_for, times, weighted, whole)
from anymargin import errors
from anymargin.errors import InvalidFraction, InvalidNumber, InvalidOperation, Refused
from tests.support import LONG, MOST, NO_FRACTIONS, NO_INTEGERS, NO_TUPLES, Case, pair

EXAMPLES = """
>>> [fraction(6, -4), plus((1, 2), (1, 3)), less((1, 2), (1, 3)), times((2, 3), (3, 4)), over((1, 2), (-3, 4))]
[(-3, 2), (5, 6), (1, 6), (1, 2), (-2, 3)]
>>> [whole((-3, 2)), rest((-3, 2)), compared((1, 2), (1, 3)), halfway((1, 2), (1, 3)), least(((1, 2), (1, 3))), steps_for((1, 1), (2, 7))]
[-2, (1, 2), 1, (5, 12), (1, 3), 4]
>>> [simplest((3, 10), (2, 5)), simplest((-7, 2), (-2, 1)), simplest((-1, 3), (5, 1)), simplest((5, 7), (5, 7))]
[(1, 3), (-2, 1), (0, 1), (5, 7)]
>>> [weighted(((1, 3), (2, 3)), (((0, 1), (3, 1)), ((3, 1), (0, 1)))), are_weights(((1, 3), (2, 3))), is_fraction((2, 4)), is_fraction((1, -2))]
[((2, 1), (1, 1)), True, False, False]
>>> over((1, 2), (0, 1))
raises Refused(('zero',))
"""


SMALL = sorted({Fraction(top, bottom) for top in range(-9, 10) for bottom in range(1, 7)})
HUGE = [Fraction(MOST), Fraction(-MOST), Fraction(1, MOST), Fraction(-1, MOST), Fraction(MOST, MOST - 1),
        Fraction(MOST - 1, MOST), Fraction(1 - MOST, MOST), Fraction(10 ** 59, MOST - 2), Fraction(0), Fraction(1)]
PAIRS = [(one, other) for one in SMALL for other in SMALL] + [(one, other) for one in HUGE for other in HUGE + SMALL]


class Fractions(Case):
    def test_examples(self):
        self.examples(EXAMPLES, vars(module).copy(), vars(errors))

    def test_constant(self):
        self.same(module.MOST_DIGITS, 60)
        self.same(checks.GREATEST, 10 ** module.MOST_DIGITS - 1)

    def test_is_fraction(self):
        right = [(0, 1), (1, 1), (-1, 1), (-3, 2), (3, 2), (7, 1), (MOST, 1), (-MOST, 1), (1, MOST), (-1, MOST),
                 (MOST, MOST - 1), (1 - MOST, MOST)]
        self.judged(is_fraction, right, NO_FRACTIONS)

    def test_fractions_are_equal_exactly_if_they_are_the_same_pair(self):
        for one, other in PAIRS:
            self.assertEqual(pair(one) == pair(other), compared(pair(one), pair(other)) == 0)

    def test_fraction(self):
        for top in range(-12, 13):
            for bottom in list(range(-12, 0)) + list(range(1, 13)):
                self.same(fraction(top, bottom), pair(Fraction(top, bottom)))
        self.same(fraction(0, -MOST), (0, 1))
        self.same(fraction(MOST, -MOST), (-1, 1))
        self.same(fraction(MOST, MOST - 1), (MOST, MOST - 1))
        self.same(fraction(1, -MOST), (-1, MOST))

    def test_fraction_refuses(self):
        self.all_refused(InvalidNumber, lambda top: fraction(top, 2), NO_INTEGERS, "given")
        self.all_refused(InvalidNumber, lambda bottom: fraction(2, bottom), NO_INTEGERS + (0,), "given")
        self.refused(InvalidNumber, fraction, True, 0, given=True)
        self.refused(InvalidNumber, fraction, LONG, "a", given=LONG)
        self.refused(InvalidNumber, fraction, 1, 0, given=0)

    def test_sums_differences_products_quotients(self):
        for one, other in PAIRS:
            self.same(plus(pair(one), pair(other)), pair(one + other))
            self.same(less(pair(one), pair(other)), pair(one - other))
            self.same(times(pair(one), pair(other)), pair(one * other))
            if other:
                self.same(over(pair(one), pair(other)), pair(one / other))

    def test_results_can_have_longer_integers(self):
        self.same(plus((MOST, 1), (1, 1)), (LONG, 1))
        self.same(times((MOST, 1), (MOST, 1)), (MOST * MOST, 1))
        self.same(less((1, MOST), (1, MOST - 1)), (-1, MOST * (MOST - 1)))
        self.same(over((1, MOST), (MOST, 1)), (1, MOST * MOST))
        self.same(halfway((1, MOST), (0, 1)), (1, 2 * MOST))

    def test_compared_and_halfway(self):
        for one, other in PAIRS:
            self.same(compared(pair(one), pair(other)), (one > other) - (one < other))
            self.same(halfway(pair(one), pair(other)), pair((one + other) / 2))

    def test_a_division_by_zero_is_refused(self):
        self.refused(Refused, over, (0, 1), (0, 1), reason=("zero",))
        self.refused(InvalidFraction, over, (0, 2), (0, 1))

    def test_functions_of_two_fractions_refuse(self):
        for call in (plus, less, times, over, compared, halfway, simplest, steps_for):
            self.all_refused(InvalidFraction, lambda one: call(one, (1, 2)), NO_FRACTIONS)
            self.all_refused(InvalidFraction, lambda other: call((1, 2), other), NO_FRACTIONS)
            self.refused(InvalidFraction, call, (2, 4), (0, 0))

    def test_least_and_greatest(self):
        chosen = random.Random(1)
        for many in range(1, 9):
            row = [chosen.choice(SMALL + HUGE) for _ in range(many)]
            self.same(least(tuple(map(pair, row))), pair(min(row)))
            self.same(greatest(tuple(map(pair, row))), pair(max(row)))
        self.same(least(((5, 7),)), (5, 7))

    def test_least_and_greatest_refuse(self):
        rows = NO_TUPLES + ((), (1, 2), ((1, 2), (2, 4)), ((1, 2), True), ([1, 2],), [(1, 2)], ((1, 2), ((1, 2),)))
        for call in (least, greatest):
            self.all_refused(InvalidFraction, call, rows)
            self.all_refused(InvalidFraction, lambda value: call(((1, 2), value)), NO_FRACTIONS)

    def test_wholes_and_rests(self):
        for value in SMALL + HUGE:
            self.same(whole(pair(value)), floor(value))
            self.same(rest(pair(value)), pair(value - floor(value)))
        for call in (whole, rest):
            self.all_refused(InvalidFraction, call, NO_FRACTIONS)


class Simplest(Case):
    def least_by_trying(self, low, high):
        bottom = 1
        while True:
            tops = range(ceil(low * bottom), floor(high * bottom) + 1)
            if tops:
                return (min(tops, key=abs), bottom)
            bottom += 1

    def test_it_has_the_least_bottom_and_then_the_least_top(self):
        for low, high in PAIRS:
            if low <= high and low in SMALL and high in SMALL:
                self.same(simplest(pair(low), pair(high)), self.least_by_trying(low, high))

    def test_narrow_stretches(self):
        chosen = random.Random(2)
        for _ in range(300):
            low = Fraction(chosen.randrange(-3000, 3000), chosen.randrange(1, 1000))
            high = low + Fraction(chosen.randrange(50), chosen.randrange(1, 5000))
            self.same(simplest(pair(low), pair(high)), self.least_by_trying(low, high))

    def test_sixty_digits(self):
        one, other = 0, 1
        rows = []
        while other <= MOST:
            one, other = other, one + other
            rows.append(Fraction(one, other))
        # Neighbours of these have the longest way down the tree of fractions.
        low, high = sorted(rows[-3:-1])
        self.same(simplest(pair(low), pair(low)), pair(low))
        self.same(simplest(pair(low), pair(high)), min(pair(low), pair(high), key=lambda told: told[1]))
        self.same(simplest((MOST - 1, MOST), (1, 1)), (1, 1))
        self.same(simplest((1, MOST), (1, 2)), (1, 2))
        self.same(simplest((1, MOST), (1, MOST - 1)), (1, MOST - 1))
        self.same(simplest((-MOST, 1), (-MOST, 1)), (-MOST, 1))

    def test_no_fraction_of_the_stretch_has_a_lesser_top(self):
        for low, high in [(Fraction(3, 10), Fraction(2, 5)), (Fraction(-17, 5), Fraction(-16, 5))]:
            top = simplest(pair(low), pair(high))[0]
            for bottom in range(1, 200):
                for other in range(ceil(low * bottom), floor(high * bottom) + 1):
                    self.assertGreaterEqual(abs(other), abs(top))

    def test_a_stretch_of_one_point(self):
        for value in SMALL + HUGE:
            self.same(simplest(pair(value), pair(value)), pair(value))

    def test_it_refuses_low_above_high(self):
        self.refused(InvalidOperation, simplest, (1, 2), (1, 3))
        self.refused(InvalidOperation, simplest, (0, 1), (-1, MOST))
        self.refused(InvalidFraction, simplest, (1, 2), (2, 6))


class Steps(Case):
    def test_the_fewest_steps(self):
        for length in SMALL:
            for most in SMALL:
                if length >= 0 and most > 0:
                    many = steps_for(pair(length), pair(most))
                    self.same(many, ceil(length / most))
                    self.assertTrue(many * most >= length and (many == 0 or (many - 1) * most < length))

    def test_edges(self):
        self.same(steps_for((0, 1), (1, 3)), 0)
        self.same(steps_for((1, 1), (1, 7)), 7)
        self.same(steps_for((1, 7), (1, 7)), 1)
        self.same(steps_for((MOST, 1), (1, MOST)), MOST * MOST)
        self.same(steps_for((1, MOST), (MOST, 1)), 1)

    def test_it_refuses(self):
        self.refused(InvalidOperation, steps_for, (-1, 2), (1, 2))
        self.refused(InvalidOperation, steps_for, (1, 2), (0, 1))
        self.refused(InvalidOperation, steps_for, (1, 2), (-1, 2))
        self.refused(InvalidOperation, steps_for, (0, 1), (0, 1))
        self.refused(InvalidFraction, steps_for, (-1, 2), (0, 2))


class Weights(Case):
    def test_are_weights(self):
        right = [((1, 1),), ((0, 1), (1, 1)), ((1, 2), (1, 3), (1, 6)), ((1, 3), (2, 3)), ((1, 4),) * 4,
                 ((1, MOST), (MOST - 1, MOST)), ((0, 1),) * 9 + ((1, 1),)]
        wrong = [(), ((0, 1),), ((2, 1),), ((1, 2), (1, 3)), ((3, 2), (-1, 2)), ((1, MOST), (MOST - 2, MOST)),
                 ((1, 2), (1, 2), (1, MOST)), ((1, 2), (2, 4)), ((1, 2), [1, 2]), [(1, 1)], ((True, 1),),
                 ((1, True),), (1, 1), ((-1, 1), (2, 1)), ((1, 3), (2, 3), (1, LONG)), (((1, 1),),)]
        self.judged(are_weights, right, wrong)
        self.judged(are_weights, [], NO_FRACTIONS)

    def sums(self, weights, rows):
        return tuple([pair(sum([weight * row[at] for weight, row in zip(weights, rows)], Fraction(0)))
                      for at in range(len(rows[0]))])

    def test_the_weighted_sum(self):
        chosen = random.Random(3)
        for many in range(1, 5):
            for long in range(4):
                weights = [chosen.choice(SMALL + HUGE) for _ in range(many)]
                rows = [[chosen.choice(SMALL + HUGE) for _ in range(long)] for _ in range(many)]
                given = tuple([tuple(map(pair, row)) for row in rows])
                self.same(weighted(tuple(map(pair, weights)), given), self.sums(weights, rows))
        self.same(weighted(((2, 1),), (((MOST, 1),),)), ((2 * MOST, 1),))

    def test_with_weights_it_lies_between_the_least_and_the_greatest(self):
        weights, rows = ((1, 6), (1, 3), (1, 2)), (((0, 1), (5, 2)), ((1, 1), (-3, 1)), ((7, 2), (0, 1)))
        for at, found in enumerate(weighted(weights, rows)):
            column = tuple([row[at] for row in rows])
            self.assertTrue(compared(least(column), found) <= 0 <= compared(greatest(column), found))

    def test_weighted_sums_of_weighted_sums_are_weighted_sums(self):
        rows = (((0, 1), (5, 2)), ((1, 1), (-3, 1)))
        inner = (((1, 4), (3, 4)), ((1, 2), (1, 2)))
        outer = ((1, 3), (2, 3))
        together = weighted(outer, inner)
        self.assertTrue(are_weights(together))
        self.same(weighted(outer, tuple([weighted(row, rows) for row in inner])), weighted(together, rows))

    def test_it_refuses(self):
        rows = (((1, 2),), ((1, 3),))
        self.all_refused(InvalidFraction, lambda weights: weighted(weights, rows),
                         NO_TUPLES + ((), (1, 1), ((1, 2), (2, 4)), ((1, 2), True), [(1, 2), (1, 2)]))
        self.all_refused(InvalidFraction, lambda given: weighted(((1, 2), (1, 2)), given),
                         NO_TUPLES + (((1, 2), (1, 2)), (((1, 2),), [(1, 3)]), (((1, 2),), ((2, 6),)),
                                      (((1, 2),), ((1, True),)), (((1, 2),), None), (((1, 2),), 0)))
        for wrong in ((), rows[:1], rows + rows, (((1, 2),), ()), (((1, 2),), ((1, 2), (1, 3)))):
            self.refused(InvalidOperation, weighted, ((1, 2), (1, 2)), wrong)
        self.refused(InvalidFraction, weighted, (), ((1, 2),))
        self.refused(InvalidFraction, weighted, ((1, 2),), (((1, 2),), ((2, 4), (1, 2))))
        self.same(weighted(((1, 2), (1, 2)), ((), ())), ())

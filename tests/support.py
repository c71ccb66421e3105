"""What the tests share: how errors are asked for, wrong values, and how examples are read."""
import unittest
from fractions import Fraction

from anymargin.errors import InvalidNumber, Refused
from anymargin.machine.machines import Machine
from anymargin.zone.zones import Zone

# The longest integers that may be passed, and the shortest ones that may not.
MOST = 10 ** 60 - 1
LONG = 10 ** 60

ZONE = Zone(1, 1, ((0, 0), (2, 0)))
MACHINE = Machine(1, ((2,),), ())
OBJECTS = (ZONE, MACHINE, InvalidNumber(1), Refused(("zero",)))

# Values of other kinds than an integer; True and False count as such.
NO_INTEGERS = (True, False, None, "", "1", (), (1,), [1], {}, {1: 1}, LONG, -LONG, 10 ** 99) + OBJECTS

# Values of other kinds than a tuple.
NO_TUPLES = (True, False, None, 0, 1, -1, LONG, "", "wait", "((0, 1),)", [], [0], [(0, 1)], {}, {0: 1}) + OBJECTS

NO_FRACTIONS = NO_TUPLES + (
    (), (1,), (1, 2, 3), (2, 4), (0, 2), (0, 0), (1, 0), (1, -2), (-1, -2), (0, -1), (-2, 4), (MOST, MOST),
    (True, 1), (False, 1), (1, True), (1, False), ("1", 2), (1, "2"), (None, 1), (1, None), ((1,), 2), (1, (2,)),
    [1, 2], {1: 2}, (LONG, 1), (-LONG, 1), (1, LONG), (LONG, LONG + 1), ((1, 2), (1, 3)), ([1], 2))


def nested(depth):
    """A value that is nested so deep, of changing kinds."""
    value = 0
    for level in range(depth):
        value = ((value, True), [value, "a"], {level: value})[level % 3]
    return value


# Values of all kinds: a judge has to take each of them.
EVERYTHING = NO_INTEGERS + NO_FRACTIONS + (
    0, 1, 7, -3, MOST, "way", "a" * 3000, "\n", ("way",), ("way", ()), ("closed", None), ("closed", [0]), ("wait",),
    ("door", ()), ("door", 0), ("come", ()), (0, 1), (1, 2), ((0, 1),), ((1, 2), (1, 2)), ((0,), ((0,),)),
    ((0,), ((), (0,))), ((), ()), ((), 0), (((),),), ((0,), 0), ((0, 0), 1), ({}, []), ([], {}), ({0: 1}, {0: 1}),
    nested(3), nested(7), nested(12), tuple(range(50)), ("x",) * 40, [nested(5)] * 3, (ZONE, MACHINE), (MACHINE,) * 4,
    ("way", ZONE), (ZONE, ()), ((ZONE,), 0), ((0,), ZONE), (0, ((0, 1),), ZONE, 0))


def pair(value):
    """A fraction of Python's library as the program tells it."""
    return (value.numerator, value.denominator)


def told(row):
    """A row of numbers as readings."""
    return tuple([pair(Fraction(value)) for value in row])


def numbers(readings):
    """Readings as a tuple of fractions of Python's library."""
    return tuple([Fraction(*reading) for reading in readings])


class Case(unittest.TestCase):
    """A test with exact comparisons: True is not 1, and a list is no tuple."""

    def same(self, found, wanted):
        self.assertEqual(repr(found), repr(wanted))

    def refused(self, error, call, *given, **kept):
        """The call raises just this error, which keeps what is told."""
        with self.assertRaises(error) as caught:
            call(*given)
        self.assertIs(type(caught.exception), error, given)
        for name, value in kept.items():
            self.same(getattr(caught.exception, name), value)

    def all_refused(self, error, call, wrong, keeps=None):
        """The call of one argument raises the error for each of the values, perhaps keeping it."""
        for value in wrong:
            with self.subTest(value=repr(value)[:80]):
                self.refused(error, call, value, **({keeps: value} if keeps else {}))

    def judged(self, judge, right, wrong):
        """The judge of one argument takes the right values and no wrong ones, nor a value of other kinds."""
        for value in right:
            with self.subTest(right=repr(value)[:80]):
                self.same(judge(value), True)
        for value in wrong:
            with self.subTest(wrong=repr(value)[:80]):
                self.same(judge(value), False)
        for value in EVERYTHING:
            if repr(value) not in [repr(member) for member in right]:
                self.assertIn(judge(value), (True, False))

    def examples(self, block, names, errors):
        """Each example of a block of the document answers what stands below it."""
        lines = block.strip().split("\n")
        at = 0
        while at < len(lines):
            self.assertTrue(lines[at].startswith(">>> "), lines[at])
            command = lines[at][4:]
            answer = lines[at + 1] if at + 1 < len(lines) and not lines[at + 1].startswith(">>>") else None
            at += 1 if answer is None else 2
            with self.subTest(command=command):
                self.example(command, answer, names, errors)

    def example(self, command, answer, names, errors):
        if answer is None:
            exec(command, names)
        elif answer.startswith("raises "):
            wanted = eval(answer[7:], dict(errors))
            kind = wanted if isinstance(wanted, type) else type(wanted)
            with self.assertRaises(kind) as caught:
                eval(command, names)
            self.assertIs(type(caught.exception), kind)
            if not isinstance(wanted, type):
                self.same(vars(caught.exception), vars(wanted))
        else:
            self.same(eval(command, names), eval(answer, {}))

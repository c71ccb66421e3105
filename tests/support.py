"""What the tests share: how errors are asked for, wrong values, and how examples are read."""
import unittest
from fractions import Fraction

from anymargin.errors import InvalidNumber, Refused
from anymargin.house.desk import Desk
from anymargin.machine.machines import Machine
from anymargin.machine.nets import Net
from anymargin.text.shell import Shell
from anymargin.zone.zones import Zone

# The longest integers that may be passed, and the shortest ones that may not.
MOST = 10 ** 60 - 1
LONG = 10 ** 60

ZONE = Zone(1, 1, ((0, 0), (2, 0)))
MACHINE = Machine(1, ((2,),), ())
NET = Net(MACHINE, MACHINE, ())
OBJECTS = (ZONE, MACHINE, NET, InvalidNumber(1), Refused(("zero",)), Desk(MACHINE), Shell())

# The machines that the examples of the document share.
HOLDS = Machine(2, ((4, 4), (4, 4)), ((0, ((1, 1), (0, 4)), (0, 1), 0), (0, ((0, 0), (2, 2)), (), 1)))
BASE = Machine(2, ((3, 3),) * 4, (
    (0, ((1, 1), (0, 4)), (1,), 1), (1, ((0, 2), (0, 4)), (0,), 2), (2, ((0, 4), (2, 4)), (1,), 1),
    (2, ((0, 0), (2, 4)), (), 3)))

# Values of other kinds than an integer; True and False count as such.
NO_INTEGERS = (True, False, None, "", "1", (), (1,), [1], {}, {1: 1}, LONG, -LONG, 10 ** 99) + OBJECTS

# Values of other kinds than a tuple.
NO_TUPLES = (True, False, None, 0, 1, -1, LONG, "", "wait", "((0, 1),)", [], [0], [(0, 1)], {}, {0: 1}) + OBJECTS

NO_FRACTIONS = NO_TUPLES + (
    (), (1,), (1, 2, 3), (2, 4), (0, 2), (0, 0), (1, 0), (1, -2), (-1, -2), (0, -1), (-2, 4), (MOST, MOST),
    (True, 1), (False, 1), (1, True), (1, False), ("1", 2), (1, "2"), (None, 1), (1, None), ((1,), 2), (1, (2,)),
    [1, 2], {1: 2}, (LONG, 1), (-LONG, 1), (1, LONG), (LONG, LONG + 1), ((1, 2), (1, 3)), ([1], 2))


def nested(depth):
    """A value that is nested so deep, of changing kinds."""
    value = 0
    for level in range(depth):
        value = ((value, True), [value, "a"], {level: value})[level % 3]
    return value


# Values of all kinds: a judge has to take each of them.
EVERYTHING = NO_INTEGERS + NO_FRACTIONS + (
    0, 1, 7, -3, MOST, "way", "a" * 3000, "\n", ("way",), ("way", ()), ("closed", None), ("closed", [0]), ("wait",),
    ("door", ()), ("door", 0), ("come", ()), (0, 1), (1, 2), ((0, 1),), ((1, 2), (1, 2)), ((0,), ((0,),)),
    ((0,), ((), (0,))), ((), ()), ((), 0), (((),),), ((0,), 0), ((0, 0), 1), ({}, []), ([], {}), ({0: 1}, {0: 1}),
    nested(3), nested(7), nested(12), tuple(range(50)), ("x",) * 40, [nested(5)] * 3, (ZONE, MACHINE), (MACHINE,) * 4,
    ("way", ZONE), (ZONE, ()), ((ZONE,), 0), ((0,), ZONE), (0, ((0, 1),), ZONE, 0))


def random_guard(chosen):
    """Bounds of one clock: often none, or just one number."""
    low, high = sorted([chosen.randrange(5), chosen.randrange(5)])
    return chosen.choice(((0, 4), (0, 4), (low, low), (low, high), (low, 4)))


def random_machine(chosen, clocks, rooms, doors, resets=None):
    """A machine; `resets` are those that its doors can have, of all if there are none."""
    lots = resets or [tuple([clock for clock in range(clocks) if lot >> clock & 1]) for lot in range(1 << clocks)]
    rows = [(chosen.randrange(rooms), tuple([random_guard(chosen) for _ in range(clocks)]), chosen.choice(lots),
             chosen.randrange(rooms)) for _ in range(doors)]
    limits = [tuple([chosen.choice((0, 1, 2, 3, 4, 4)) for _ in range(clocks)]) for _ in range(rooms)]
    return Machine(clocks, tuple(limits), tuple(rows))


def is_tight(machine):
    """Whether there is no loose round, found by adding pairs of rooms until none is new."""
    for clock in range(machine.clocks):
        pairs = {(door[0], door[3]) for door in machine.doors if clock not in door[2]}
        while True:
            more = pairs | {(a, d) for a, b in pairs for c, d in pairs if b == c}
            if more == pairs:
                break
            pairs = more
        if [1 for a, b in pairs if a == b]:
            return False
    return True


def random_run(chosen, machine, most, bottoms=(1, 2, 3)):
    """Some run of the machine: waits do not look at bounds."""
    room, steps = 0, []
    for _ in range(chosen.randrange(most + 1)):
        doors = machine.doors_from(room)
        if not doors:
            break
        bottom = chosen.choice(bottoms)
        door = chosen.choice(doors)
        steps.append((pair(Fraction(chosen.randrange(4 * bottom + 1), bottom)), door))
        room = machine.doors[door][3]
    return tuple(steps)


def pair(value):
    """A fraction of Python's library as the program tells it."""
    return (value.numerator, value.denominator)


def told(row):
    """A row of numbers as readings."""
    return tuple([pair(Fraction(value)) for value in row])


def numbers(readings):
    """Readings as a tuple of fractions of Python's library."""
    return tuple([Fraction(*reading) for reading in readings])


class Case(unittest.TestCase):
    """A test with exact comparisons: True is not 1, and a list is no tuple."""

    def same(self, found, wanted):
        self.assertEqual(repr(found), repr(wanted))

    def refused(self, error, call, *given, **kept):
        """The call raises just this error, which keeps what is told."""
        with self.assertRaises(error) as caught:
            call(*given)
        self.assertIs(type(caught.exception), error, given)
        for name, value in kept.items():
            self.same(getattr(caught.exception, name), value)

    def all_refused(self, error, call, wrong, keeps=None):
        """The call of one argument raises the error for each of the values, perhaps keeping it."""
        for value in wrong:
            with self.subTest(value=repr(value)[:80]):
                self.refused(error, call, value, **({keeps: value} if keeps else {}))

    def judged(self, judge, right, wrong):
        """The judge of one argument takes the right values and no wrong ones, nor a value of other kinds."""
        for value in right:
            with self.subTest(right=repr(value)[:80]):
                self.same(judge(value), True)
        for value in wrong:
            with self.subTest(wrong=repr(value)[:80]):
                self.same(judge(value), False)
        for value in EVERYTHING:
            if repr(value) not in [repr(member) for member in right]:
                self.assertIn(judge(value), (True, False))

    def examples(self, block, names, errors):
        """Each example of a block of the document answers what stands below it."""
        lines = block.strip().split("\n")
        at = 0
        while at < len(lines):
            self.assertTrue(lines[at].startswith(">>> "), lines[at])
            command = lines[at][4:]
            answer = lines[at + 1] if at + 1 < len(lines) and not lines[at + 1].startswith(">>>") else None
            at += 1 if answer is None else 2
            with self.subTest(command=command):
                self.example(command, answer, names, errors)

    def example(self, command, answer, names, errors):
        if answer is None:
            exec(command, names)
        elif answer.startswith("raises "):
            wanted = eval(answer[7:], dict(errors))
            kind = wanted if isinstance(wanted, type) else type(wanted)
            with self.assertRaises(kind) as caught:
                eval(command, names)
            self.assertIs(type(caught.exception), kind)
            if not isinstance(wanted, type):
                self.same(vars(caught.exception), vars(wanted))
        else:
            self.same(eval(command, names), eval(answer, {}))

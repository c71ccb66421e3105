"""Each function takes or refuses each value, in each place, with an error of the package."""
import importlib
import random

from anymargin import errors
from anymargin.house.desk import Desk
from anymargin.machine.machines import Machine
from anymargin.machine.nets import Net
from anymargin.text.shell import Shell
from anymargin.zone.zones import Zone, whole_zone
from tests.support import EVERYTHING, MACHINE, ZONE, Case, nested
from tests.test_interface import FUNCTIONS

G = ((1,), (2, 3), (0,), (3, 4), (5,), ())
ONE = ((1, 0), ((0,), (1,)))
WEIGHTS = ((2, 3), (1, 3))

# Right arguments, by the names of the parameters.
RIGHT = {
    "one": ((1, 2), (0, 1)), "other": ((-3, 4), ZONE), "low": ((1, 3),), "high": ((1, 2),), "length": ((7, 2),),
    "most": ((1, 2),), "top": (6,), "bottom": (-4,), "row": (((1, 2), (1, 3)),), "weights": (WEIGHTS,),
    "rows": ((((0, 1),), ((3, 1),)),), "graph": (G,), "begins": ((0,), ()), "goals": ((4, 5),), "node": (1,),
    "clocks": (1, 2, 3, (0,)), "readings": (((1, 1), (1, 3)), ((0, 1),)), "cls": (ONE,), "guards": (((0, 4), (0, 4)),),
    "limits": ((1, 1), ((2,), (1,))), "move": (("wait",), ("door", (1,))), "corner": (0,), "unit": (1, 2), "rooms": (2,),
    "doors": ((), (((0, ((1, 2),), (0,), 1)),)), "machine": (MACHINE,), "door": ((0, ((0, 4),), (), 0),), "lot": ((),),
    "room": (0,), "value": (G, ONE, (0, 1), ((0,), 0), WEIGHTS, ("closed", ()))}

TWO = Machine(1, ((2,), (2,)), ((0, ((1, 2),), (0,), 1), (1, ((1, 1),), (0,), 0)))
STAY = ((((1, 1), 0),), (0, 1))
NODE = (0, ((0,), ((0,),)))
ROUND = ("round", NODE[1], (("wait",), ("wait",), ("door", 0), ("wait",), ("wait",), ("door", 1)), NODE[1])
CHAIN = (ROUND, ("wait",), ("wait",), ("door", 0))
DRIFT = (((1, 1), ((6, 5),), 0),)
TICKING = ((2, (1, 4), 0), (4, (1, 4), 1))
LOG = ((0, (1, 1), (2, 1)), (1, (4, 1), (4, 1)))
AROUND = (("low", 2), ("most", 2, 0), ("most", 1, 0))
PLAIN = (TWO.clocks, TWO.limits, TWO.doors)
COMMON = {
    "machine": (TWO,), "run": ((((1, 1), 0),),), "zone": (whole_zone(1, 2), ZONE), "door": (0,), "room": (1, 0),
    "margin": ((1, 2),), "m": (2,)}

# Right arguments in the modules where the same names stand for other things.
RIGHT_THERE = {
    "anymargin.zone.deeds": {
        "tops": ((3,),), "clocks": ((0,), ()), "lows": ((1,),), "highs": ((3,), (None,)), "guards": (((0, 4),),),
        "slack": (1,), "cls": (((0,), ((), (0,))),)},
    "anymargin.machine.runs": {
        "one": ((((1, 1), 0),),), "other": ((((2, 1), 0),),), "weight": ((1, 2),), "many": (1,),
        "value": ((((1, 1), 0),),)},
    "anymargin.machine.nets": {
        "stay": (((), (1, 2)), STAY), "net": (Net(TWO, TWO, ((0, 0),)),), "first": (STAY,), "last": (STAY,), "value": (STAY,)},
    "anymargin.come.plain": {
        "node": (NODE,), "move": (("wait",), ("door", 0)), "moves": ((("wait",),) * 3,),
        "value": (NODE, ("come", (((1, 1), 0),)), ("never", (NODE,)))},
    "anymargin.come.within": {"value": (((whole_zone(1, 2),), ()),)},
    "anymargin.come.every": {
        "node": (NODE,), "chain": (CHAIN,),
        "value": (CHAIN, ROUND[2], ("every", CHAIN), ("margin", 2, ((whole_zone(1, 2),), ())))},
    "anymargin.come.walks": {"chain": (CHAIN,), "value": ((((1, 1), 0), ((1, 1), 1), ((1, 1), 0)),)},
    "anymargin.real.drift": {
        "rate": ((1, 5),), "drift": (DRIFT,),
        "value": (DRIFT, ("drift", DRIFT), ("barred", "low", 0, 0, 1))},
    "anymargin.real.ticks": {"own": ((0,),), "k": (2,), "run": (TICKING,), "value": (TICKING,)},
    "anymargin.real.logs": {
        "log": (LOG,), "bound": (("high", 1), ("enter", 2, 0)), "slack": ((1, 2),),
        "value": (LOG, AROUND, ("never", AROUND), ("least", (1, 1), (((2, 1), 0), ((2, 1), 1)), AROUND))},
    "anymargin.less.lesser": {"value": (((0,), (1,)),)},
    "anymargin.mend.mends": {
        "lot": ((0,),), "most": (1,), "chain": (CHAIN,),
        "value": (("none", (((0,), ()), ((1,), ()))), ("mend", (0,), 2, ((whole_zone(1, 2),), ())))},
    "anymargin.judge.judge": {
        "claim": (("come within", PLAIN, 1, 2), ("every", PLAIN, 1), ("explained", PLAIN, LOG, (1, 1))),
        "paper": ((((1, 1), 0),), CHAIN, (((2, 1), 0), ((2, 1), 1))), "value": (("margin", PLAIN, 0, 1),)},
    "anymargin.text.texts": {
        "text": ("", "wait\n"), "chain": (CHAIN,), "table": (((whole_zone(1, 2),), ()),), "cls": (NODE[1],)},
}


def right_for(module, name):
    """The right arguments for a parameter of a function of a module."""
    if module in RIGHT_THERE:
        return {**RIGHT, **COMMON, **RIGHT_THERE[module]}[name]
    return RIGHT[name]


ALLOWED = tuple([value for value in vars(errors).values() if isinstance(value, type)])


def calls():
    """All functions of the interface, with the right arguments for each of their parameters."""
    for name, told in FUNCTIONS.items():
        for line in told:
            word, rest = line[:-1].split("(")
            yield getattr(importlib.import_module(name), word), [right_for(name, part) for part in rest.split(", ")]


class EveryValue(Case):
    def taken(self, call, given):
        try:
            found = call(*given)
        except ALLOWED:
            return
        word = call.__name__
        if word.startswith(("is_", "are_", "has_", "does_", "takes")):
            self.assertIn(found, (True, False))

    def test_functions_with_one_value_in_each_place(self):
        for call, rows in calls():
            for at in range(len(rows)):
                for value in EVERYTHING:
                    given = [row[0] for row in rows]
                    given[at] = value
                    with self.subTest(call=call.__name__, at=at, value=repr(value)[:80]):
                        self.taken(call, given)

    def test_functions_with_chosen_values(self):
        chosen = random.Random(8)
        for call, rows in calls():
            for _ in range(200):
                given = [chosen.choice(row * 9 + EVERYTHING[::5]) for row in rows]
                with self.subTest(call=call.__name__, given=repr(given)[:200]):
                    self.taken(call, given)

    def test_methods_and_classes(self):
        zone, machine, net = whole_zone(2, 2), MACHINE, Net(TWO, TWO, ())
        desk = Desk(TWO)
        for value in EVERYTHING + (nested(11),):
            for call in (zone.has, zone.is_empty_round, zone.is_within, zone.outside, zone.met, zone.finer,
                         machine.doors_from, net.pair, net.sides, desk.comes, desk.answer, desk.mends, desk.since,
                         desk.behind, desk.places, Desk, Shell().do):
                self.taken(call, (value,))
            for given in ((value, 1), (1, value)):
                self.taken(zone.edge, given)
                self.taken(net.room, given)
            for given in ((value, TWO.doors[0]), (0, value), (0, (1, 1)), (value, value)):
                for call in (desk.led, desk.keeps, desk.twin().put_door, desk.twin().set_limits):
                    self.taken(call, given)
            self.taken(desk.twin().take_door, (value,))
            for given in ((value, TWO, ()), (TWO, value, ()), (TWO, TWO, value)):
                self.taken(Net, given)
            for given in ((value, 1, ((0, 0), (0, 0))), (1, value, ((0, 0), (0, 0))), (1, 1, value)):
                self.taken(Zone, given)
            for given in ((value, ((4,),), ()), (1, value, ()), (1, ((4,),), value)):
                self.taken(Machine, given)

    def test_values_in_the_place_of_members(self):
        """Each member of a right value, also deep within, is put in the place of others."""
        for call, rows in calls():
            for at, row in enumerate(rows):
                for right in row:
                    for value in changed(right):
                        given = [other[0] for other in rows]
                        given[at] = value
                        with self.subTest(call=call.__name__, given=repr(given)[:200]):
                            self.taken(call, given)


def changed(value):
    """The values that differ from a tuple in one member, also deep within."""
    if not isinstance(value, tuple):
        return [True, False, None, "a", [], {}, -1, 10 ** 60, ZONE]
    found = [list(value), value[1:], value + value[:1], value + (0,)]
    for at, member in enumerate(value):
        found.extend([value[:at] + (other,) + value[at + 1:] for other in changed(member)])
    return found


class RightValues(Case):
    def test_right_arguments_are_taken(self):
        """So what is put in the place of one of them is all that can be wrong."""
        for module, told in FUNCTIONS.items():
            for line in told if module in RIGHT_THERE else ():
                word, rest = line[:-1].split("(")
                given = [right_for(module, part)[0] for part in rest.split(", ")]
                # The empty text tells neither a machine nor a table.
                if word in ("read_machine", "read_table"):
                    given[-1] = {"read_machine": "clocks 1\nroom 2\n", "read_table": "unit 2\nzone 0 0 0 0 0\n"}[word]
                with self.subTest(call=line):
                    getattr(importlib.import_module(module), word)(*given)

"""Each function takes or refuses each value, in each place, with an error of the package."""
import importlib
import random

from anymargin import errors
from anymargin.machine.machines import Machine
from anymargin.zone.zones import Zone, whole_zone
from tests.support import EVERYTHING, MACHINE, ZONE, Case, nested
from tests.test_interface import FUNCTIONS

G = ((1,), (2, 3), (0,), (3, 4), (5,), ())
ONE = ((1, 0), ((0,), (1,)))
WEIGHTS = ((2, 3), (1, 3))

# Right arguments, by the names of the parameters.
RIGHT = {
    "one": ((1, 2), (0, 1)), "other": ((-3, 4), ZONE), "low": ((1, 3),), "high": ((1, 2),), "length": ((7, 2),),
    "most": ((1, 2),), "top": (6,), "bottom": (-4,), "row": (((1, 2), (1, 3)),), "weights": (WEIGHTS,),
    "rows": ((((0, 1),), ((3, 1),)),), "graph": (G,), "begins": ((0,), ()), "goals": ((4, 5),), "node": (1,),
    "clocks": (1, 2, 3, (0,)), "readings": (((1, 1), (1, 3)), ((0, 1),)), "cls": (ONE,), "guards": (((0, 4), (0, 4)),),
    "limits": ((1, 1), ((2,), (1,))), "move": (("wait",), ("door", (1,))), "corner": (0,), "unit": (1, 2), "rooms": (2,),
    "doors": ((), (((0, ((1, 2),), (0,), 1)),)), "machine": (MACHINE,), "door": ((0, ((0, 4),), (), 0),), "lot": ((),),
    "room": (0,), "value": (G, ONE, (0, 1), ((0,), 0), WEIGHTS, ("closed", ()))}

ALLOWED = tuple([value for value in vars(errors).values() if isinstance(value, type)])


def calls():
    """All functions of the interface, with the names of their parameters."""
    for name, told in FUNCTIONS.items():
        for line in told:
            word, rest = line[:-1].split("(")
            yield getattr(importlib.import_module(name), word), rest.split(", ")


class EveryValue(Case):
    def taken(self, call, given):
        try:
            found = call(*given)
        except ALLOWED:
            return
        word = call.__name__
        if word.startswith(("is_", "are_", "has_", "does_")):
            self.assertIn(found, (True, False))

    def test_functions_with_one_value_in_each_place(self):
        for call, names in calls():
            for at in range(len(names)):
                for value in EVERYTHING:
                    given = [RIGHT[name][0] for name in names]
                    given[at] = value
                    with self.subTest(call=call.__name__, at=at, value=repr(value)[:80]):
                        self.taken(call, given)

    def test_functions_with_chosen_values(self):
        chosen = random.Random(8)
        for call, names in calls():
            for _ in range(200):
                given = [chosen.choice(RIGHT[name] + EVERYTHING[::5]) for name in names]
                with self.subTest(call=call.__name__, given=repr(given)[:200]):
                    self.taken(call, given)

    def test_methods_and_classes(self):
        zone, machine = whole_zone(2, 2), MACHINE
        for value in EVERYTHING + (nested(11),):
            for call in (zone.has, zone.is_empty_round, zone.is_within, zone.outside, zone.met, zone.finer,
                         machine.doors_from):
                self.taken(call, (value,))
            for given in ((value, 1), (1, value)):
                self.taken(zone.edge, given)
            for given in ((value, 1, ((0, 0), (0, 0))), (1, value, ((0, 0), (0, 0))), (1, 1, value)):
                self.taken(Zone, given)
            for given in ((value, ((4,),), ()), (1, value, ()), (1, ((4,),), value)):
                self.taken(Machine, given)

    def test_values_in_the_place_of_members(self):
        """Each member of a right value, also deep within, is put in the place of others."""
        for call, names in calls():
            for at, name in enumerate(names):
                for right in RIGHT[name]:
                    for value in changed(right):
                        given = [RIGHT[other][0] for other in names]
                        given[at] = value
                        with self.subTest(call=call.__name__, given=repr(given)[:200]):
                            self.taken(call, given)


def changed(value):
    """The values that differ from a tuple in one member, also deep within."""
    if not isinstance(value, tuple):
        return [True, False, None, "a", [], {}, -1, 10 ** 60, ZONE]
    found = [list(value), value[1:], value + value[:1], value + (0,)]
    for at, member in enumerate(value):
        found.extend([value[:at] + (other,) + value[at + 1:] for other in changed(member)])
    return found

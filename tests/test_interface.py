"""The interface: each name stands in its file, with the arguments that the document tells."""
import importlib
import inspect

from tests.support import Case

FUNCTIONS = {
    "anymargin.base.fractions": (
        "is_fraction(value)", "are_weights(value)", "fraction(top, bottom)", "plus(one, other)", "less(one, other)",
        "times(one, other)", "over(one, other)", "compared(one, other)", "halfway(one, other)", "least(row)",
        "greatest(row)", "whole(one)", "rest(one)", "simplest(low, high)", "steps_for(length, most)",
        "weighted(weights, rows)"),
    "anymargin.base.graphs": (
        "is_graph(value)", "come_to(graph, begins)", "turned(graph)", "way_answer(graph, begins, goals)",
        "is_way(graph, value)", "is_closed(graph, value)", "is_round(graph, value)",
        "is_way_answer(graph, begins, goals, value)", "knots(graph)", "round_through(graph, node)"),
    "anymargin.clock.classes": (
        "is_class(clocks, value)", "class_of(readings)", "told_point(cls)", "is_in(cls, readings)", "next_class(cls)",
        "put_back(cls, clocks)", "keeps(cls, guards)", "borders(cls)", "is_by(cls, readings)",
        "classes_within(limits)"),
    "anymargin.clock.corners": (
        "corners(cls)", "parts(cls, readings)", "point(cls, weights)", "moved(cls, move)", "corner_moves(cls, move)",
        "lead(cls, move, weights)", "back_corners(cls, move, corner)"),
    "anymargin.zone.zones": ("whole_zone(clocks, unit)", "point_zone(readings, unit)"),
    "anymargin.machine.machines": (
        "is_guards(clocks, value)", "is_door(clocks, rooms, value)", "machine_fault(clocks, limits, doors)",
        "loose_round(machine)", "is_loose(machine, value)", "falls(machine)", "is_falls(machine, value)",
        "with_door(machine, door)", "without_doors(machine, lot)", "with_limits(machine, room, limits)"),
    "anymargin.zone.deeds": (
        "later(zone, tops)", "earlier(zone)", "put_back(zone, clocks)", "freed(zone, clocks)",
        "cut(zone, lows, highs)", "widened(guards, unit, slack)", "step_zone(machine, door, zone, slack)",
        "back_zone(machine, door, zone, slack)", "class_zone(cls, unit)"),
    "anymargin.machine.runs": (
        "is_run(machine, value)", "standings(machine, run)", "moments(run)", "time_of(run)", "misses(machine, run)",
        "needed(machine, run)", "goes(machine, run, margin)", "run_fault(machine, run, margin)",
        "mixed(machine, one, other, weight)", "room_behind(machine, run)", "part_of(run, many)"),
    "anymargin.machine.nets": (
        "is_stay(machine, value)", "stay_length(machine, stay)", "stay_needed(machine, stay)", "split(net, stay)",
        "joint_fault(net, first, last)", "joined(net, first, last)", "is_joined(net, first, last, value)"),
    "anymargin.come.plain": (
        "is_node(machine, value)", "class_graph(machine)", "moved_node(machine, node, move)",
        "run_along(machine, moves)", "plain_answer(machine, room)", "is_plain_answer(machine, room, value)",
        "rooms_come_to(machine)"),
    "anymargin.come.within": (
        "made_zone(machine, door, zone)", "within_answer(machine, room, m)", "is_table(machine, room, m, value)",
        "least_margin(machine, room)"),
    "anymargin.come.every": (
        "round_at(machine, node)", "is_round(machine, node, value)", "every_nodes(machine)",
        "comes_with_every(machine, room)", "is_chain(machine, value)", "chain_end(machine, chain)",
        "chain_to(machine, room)", "margin_answer(machine, room)", "is_margin_answer(machine, room, value)"),
    "anymargin.come.walks": (
        "returns(machine, chain)", "rounds_needed(machine, chain, m)", "doors_needed(machine, chain, m)",
        "walk_for(machine, chain, m)", "is_walk(machine, chain, m, value)", "greatest_m(machine, chain)"),
    "anymargin.real.drift": (
        "is_rate(value)", "margin_for(rate)", "rate_for(margin)", "is_drift_run(machine, rate, value)",
        "true_run(machine, rate, drift)", "own_readings(machine, rate, drift)", "drift_answer(machine, run, rate)",
        "is_drift_answer(machine, run, rate, value)", "least_rate(machine, run)"),
    "anymargin.real.ticks": (
        "is_ticking(machine, own, k, most, value)", "moments(machine, own, k, most, run)",
        "noticed(machine, own, k, most, run)", "counters(machine, own, k, most, run)",
        "ticking_fault(machine, own, k, most, run)", "true_run(machine, own, k, most, run)", "ticks_for(m, most)"),
    "anymargin.real.logs": (
        "is_log(machine, value)", "bounds(machine, log)", "bound_told(machine, log, bound)",
        "explains(machine, log, margin, value)", "is_barring(machine, log, margin, value)",
        "explain_answer(machine, log, margin)", "least_explaining(machine, log)",
        "is_least_explaining(machine, log, value)", "log_of(machine, run, slack)"),
    "anymargin.less.lesser": (
        "came(machine)", "covers(machine)", "alike(machine)", "are_fair(machine, value)", "lesser(machine)",
        "places(machine)", "led_there(machine, run)", "led_back(machine, run)"),
    "anymargin.mend.mends": (
        "does_mend(machine, room, lot)", "least_mends(machine, room)", "mend_answer(machine, room, most)",
        "is_mend_answer(machine, room, most, value)", "chain_doors(machine, chain)"),
    "anymargin.judge.judge": ("is_claim(value)", "takes(claim, paper)", "opposite(claim)"),
    "anymargin.text.texts": (
        "write_machine(machine)", "read_machine(text)", "write_run(run)", "read_run(machine, text)",
        "write_chain(machine, chain)", "read_chain(machine, text)", "write_table(table)", "read_table(machine, text)",
        "write_class(cls)", "read_class(clocks, text)"),
}

CLASSES = {
    ("anymargin.zone.zones", "Zone"): (
        "(clocks, unit, bounds)",
        ("has(self, readings)", "least(self)", "edge(self, i, j)", "empty_round(self)", "is_empty_round(self, value)",
         "is_within(self, other)", "outside(self, other)", "met(self, other)", "finer(self, times)"),
        ("clocks", "unit", "told", "bounds", "is_empty")),
    ("anymargin.machine.machines", "Machine"): (
        "(clocks, limits, doors)", ("doors_from(self, room)",), ("clocks", "limits", "doors", "rooms")),
    ("anymargin.machine.nets", "Net"): (
        "(one, other, shared)", ("room(self, a, b)", "pair(self, room)", "sides(self, door)"),
        ("one", "other", "shared", "machine")),
    ("anymargin.text.shell", "Shell"): ("()", ("do(self, line)", "__len__(self)"), ("lines",)),
    ("anymargin.house.desk", "Desk"): (
        "(machine)",
        ("put_door(self, index, door)", "take_door(self, index)", "set_limits(self, room, limits)",
         "undo(self, *, calls=1)", "comes(self, room)", "answer(self, room)", "mends(self, room)", "since(self, room)",
         "behind(self, many)", "places(self, many)", "led(self, many, run)", "keeps(self, many, run)", "twin(self)",
         "__len__(self)"),
        ("machine", "first", "calls")),
}

CONSTANTS = {
    "anymargin.base.fractions": {"MOST_DIGITS": 60},
    "anymargin.base.graphs": {"MOST_NODES": 20000},
    "anymargin.clock.classes": {"MOST_NUMBER": 4, "MOST_CLOCKS": 3},
    "anymargin.zone.zones": {"MOST_UNIT": 64},
    "anymargin.machine.machines": {"MOST_CLOCKS": 3, "MOST_ROOMS": 6, "MOST_DOORS": 12, "MOST_NUMBER": 4},
    "anymargin.machine.runs": {"MOST_STEPS": 20000},
    "anymargin.come.within": {"MOST_M": 64, "MOST_ZONES": 2000},
    "anymargin.come.every": {"MOST_LINKS": 20000},
    "anymargin.real.logs": {"MOST_SEEN": 100},
    "anymargin.mend.mends": {"MOST_TAKEN": 2},
    "anymargin.house.desk": {"MOST_CALLS": 200},
}


class Interface(Case):
    def test_functions(self):
        for name, told in FUNCTIONS.items():
            module = importlib.import_module(name)
            for line in told:
                word = line.split("(")[0]
                found = getattr(module, word)
                self.assertTrue(inspect.isfunction(found), word)
                self.assertEqual(found.__module__, name)
                self.assertEqual(word + str(inspect.signature(found)), line)

    def test_classes(self):
        for (name, word), (signature, methods, properties) in CLASSES.items():
            found = getattr(importlib.import_module(name), word)
            self.assertEqual(found.__module__, name)
            self.assertEqual(str(inspect.signature(found)), signature)
            for line in methods:
                method = vars(found)[line.split("(")[0]]
                self.assertEqual(line, method.__name__ + str(inspect.signature(method)))
            for line in ("__eq__", "__str__") if word != "Shell" else ("__str__",):
                self.assertIn(line, vars(found))
            for line in properties:
                self.assertIsInstance(vars(found)[line], property)

    def test_constants(self):
        for name, told in CONSTANTS.items():
            for word, value in told.items():
                self.same(getattr(importlib.import_module(name), word), value)

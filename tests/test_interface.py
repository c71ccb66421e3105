"""The interface: each name stands in its file, with the arguments that the document tells."""
import importlib
import inspect

from tests.support import Case

FUNCTIONS = {
    "anymargin.base.fractions": (
        "is_fraction(value)", "are_weights(value)", "fraction(top, bottom)", "plus(one, other)", "less(one, other)",
        "times(one, other)", "over(one, other)", "compared(one, other)", "halfway(one, other)", "least(row)",
        "greatest(row)", "whole(one)", "rest(one)", "simplest(low, high)", "steps_for(length, most)",
        "weighted(weights, rows)"),
    "anymargin.base.graphs": (
        "is_graph(value)", "come_to(graph, begins)", "turned(graph)", "way_answer(graph, begins, goals)",
        "is_way(graph, value)", "is_closed(graph, value)", "is_round(graph, value)",
        "is_way_answer(graph, begins, goals, value)", "knots(graph)", "round_through(graph, node)"),
}

CLASSES = {}

CONSTANTS = {
    "anymargin.base.fractions": {"MOST_DIGITS": 60},
    "anymargin.base.graphs": {"MOST_NODES": 20000},
}


class Interface(Case):
    def test_functions(self):
        for name, told in FUNCTIONS.items():
            module = importlib.import_module(name)
            for line in told:
                word = line.split("(")[0]
                found = getattr(module, word)
                self.assertTrue(inspect.isfunction(found), word)
                self.assertEqual(found.__module__, name)
                self.assertEqual(word + str(inspect.signature(found)), line)

    def test_classes(self):
        for (name, word), (signature, methods, properties) in CLASSES.items():
            found = getattr(importlib.import_module(name), word)
            self.assertEqual(found.__module__, name)
            self.assertEqual(str(inspect.signature(found)), signature)
            for line in methods:
                method = vars(found)[line.split("(")[0]]
                self.assertEqual(line, method.__name__ + str(inspect.signature(method)))
            for line in properties:
                self.assertIsInstance(vars(found)[line], property)

    def test_constants(self):
        for name, told in CONSTANTS.items():
            for word, value in told.items():
                self.same(getattr(importlib.import_module(name), word), value)

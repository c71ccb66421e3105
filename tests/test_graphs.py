"""Stage 2: graphs, against plain searches through all small graphs."""
import random
from itertools import combinations, product

from anymargin.base import graphs as module
from anymargin.base.graphs import (
    come_to, is_closed, is_graph, is_round, is_way, is_way_answer, knots, round_through, turned, way_answer)
from anymargin import errors
from anymargin.errors import InvalidGraph, InvalidNumber, InvalidOperation
from tests.support import EVERYTHING, NO_INTEGERS, NO_TUPLES, Case

EXAMPLES = """
>>> G = ((1,), (2, 3), (0,), (3, 4), (5,), ())
>>> [come_to(G, (3,)), way_answer(G, (0,), (4, 5)), way_answer(G, (3, 4), (0,)), knots(G), round_through(G, 1), round_through(G, 3), round_through(G, 4)]
[(3, 4, 5), ('way', (0, 1, 3, 4)), ('closed', (3, 4, 5)), ((0, 1, 2), (3,)), (1, 2, 0), (3,), None]
>>> [is_way(G, (3, 3, 4)), is_way(G, ()), is_closed(G, (4, 5)), is_closed(G, (3, 5)), is_round(G, (1, 2, 0, 1, 2, 0)), turned(G)[3]]
[True, False, True, False, True, (1, 3)]
>>> [is_way_answer(G, (4,), (0,), ("closed", (3, 4, 5))), is_way_answer(G, (0,), (5,), ("way", (0, 1, 3, 3, 4, 5))), way_answer((), (), ())]
[True, True, ('closed', ())]
>>> round_through(G, 6)
raises InvalidNumber(6)
"""

G = ((1,), (2, 3), (0,), (3, 4), (5,), ())

NO_GRAPHS = NO_TUPLES + (
    (0,), (1,), ((1,),), ((0, 0),), ((1, 0), ()), ((True,), ()), ((False,),), ([0],), [(0,)], ((0,), None), ((-1,),),
    ((2,), ()), (((0,),),), ("0",), ((0,), "0"), ((0, True), ()), ({0: 0},), ((10 ** 60,),), ((),) * 20001)

NO_NODES = NO_TUPLES + ((6,), (-1,), (0, 0), (1, 0), (True,), (False,), (0, True), ((0,),), ("0",), (None,), ([0],),
                        (10 ** 60,))


def lots(size):
    """All ascending tuples of nodes."""
    return [lot for many in range(size + 1) for lot in combinations(range(size), many)]


def all_graphs(size):
    """All graphs with so many nodes."""
    return list(product(lots(size), repeat=size))


def some_graphs():
    """Random graphs that are somewhat greater."""
    chosen = random.Random(4)
    found = []
    for size in (4, 5, 6, 7, 9) * 12:
        share = chosen.choice((1, 2, 3))
        found.append(tuple([tuple([node for node in range(size) if chosen.randrange(size) < share])
                            for _ in range(size)]))
    return found


def ways_from(graph, begins, length):
    """All ways of just so many nodes from the begins, in Python's order."""
    ways = [(node,) for node in begins]
    for _ in range(length - 1):
        ways = [way + (node,) for way in ways for node in graph[way[-1]]]
    return sorted(ways)


def come(graph, begins):
    """The nodes that are come to, by adding followers until nothing is added."""
    found = set(begins)
    while True:
        more = found | {node for known in found for node in graph[known]}
        if more == found:
            return tuple(sorted(found))
        found = more


def leads(graph, begin, goal):
    """Whether a way of at least two nodes leads from one node to the other one."""
    return goal in come(graph, graph[begin])


GRAPHS = all_graphs(0) + all_graphs(1) + all_graphs(2) + all_graphs(3) + some_graphs()


class Graphs(Case):
    def test_examples(self):
        self.examples(EXAMPLES, vars(module).copy(), vars(errors))

    def test_constant(self):
        self.same(module.MOST_NODES, 20000)

    def test_is_graph(self):
        right = [(), ((),), ((0,),), ((0, 1), ()), G, ((),) * 20000, tuple([(19999,)] * 20000)]
        self.judged(is_graph, right, NO_GRAPHS)
        self.same(is_graph(((20000,),) * 20000), False)

    def test_each_function_refuses_what_is_no_graph(self):
        for call in (turned, knots):
            self.all_refused(InvalidGraph, call, NO_GRAPHS)
        for call in (come_to, is_way, is_closed, is_round, round_through):
            self.all_refused(InvalidGraph, lambda graph: call(graph, "a"), NO_GRAPHS)
        self.all_refused(InvalidGraph, lambda graph: way_answer(graph, 0, 0), NO_GRAPHS)
        self.all_refused(InvalidGraph, lambda graph: is_way_answer(graph, 0, 0, 0), NO_GRAPHS)

    def test_each_function_refuses_what_are_no_nodes(self):
        self.all_refused(InvalidOperation, lambda begins: come_to(G, begins), NO_NODES)
        self.all_refused(InvalidOperation, lambda begins: way_answer(G, begins, (0,)), NO_NODES)
        self.all_refused(InvalidOperation, lambda goals: way_answer(G, (0,), goals), NO_NODES)
        self.all_refused(InvalidOperation, lambda begins: is_way_answer(G, begins, (0,), 0), NO_NODES)
        self.all_refused(InvalidOperation, lambda goals: is_way_answer(G, (0,), goals, 0), NO_NODES)
        self.refused(InvalidOperation, come_to, (), (0,))

    def test_round_through_refuses_what_is_no_node(self):
        self.all_refused(InvalidNumber, lambda node: round_through(G, node), NO_INTEGERS + (6, -1), "given")
        self.refused(InvalidNumber, round_through, (), 0, given=0)

    def test_come_to(self):
        for graph in GRAPHS:
            for begins in lots(len(graph)):
                self.same(come_to(graph, begins), come(graph, begins))
                lot = come_to(graph, begins)
                # It is closed, and no lot is that has the begins and not all of it.
                self.same(is_closed(graph, lot), True)
                self.assertTrue(set(begins) <= set(lot))

    def test_turned(self):
        for graph in GRAPHS:
            found = turned(graph)
            self.same(is_graph(found), True)
            pairs = [(i, j) for i in range(len(graph)) for j in range(len(graph))]
            self.assertTrue(all([(i in found[j]) == (j in graph[i]) for i, j in pairs]))
            self.same(turned(found), graph)
            self.same(knots(found), knots(graph))
            for lot in lots(len(graph)):
                others = tuple([node for node in range(len(graph)) if node not in lot])
                self.same(is_closed(found, lot), is_closed(graph, others))


class Ways(Case):
    def test_is_way(self):
        for graph in all_graphs(2):
            ways = [way for length in range(1, 5) for way in ways_from(graph, range(2), length)]
            for length in range(5):
                for value in product(range(2), repeat=length):
                    self.same(is_way(graph, value), value in ways)
                    turns = value in ways and value[0] in graph[value[-1]]
                    self.same(is_round(graph, value), turns)

    def test_ways_near_by_are_none(self):
        right = [(0,), (5,), (0, 1, 2), (3, 3, 3, 4, 5), (0, 1, 2) * 5000]
        wrong = [(), (0, 2), (0, 1, 0), (6,), (-1,), (5, 0), (True,), (0, True), (False, 1), [0, 1], (0, [1]), (0, 1.5),
                 (0, "1"), (0, None), ((0, 1),), (10 ** 60,), ((0,),)]
        self.judged(lambda value: is_way(G, value), right, wrong)
        self.judged(lambda value: is_way((), value), [], [(0,), ()])

    def test_rounds_and_values_near_by(self):
        right = [(0, 1, 2), (1, 2, 0), (2, 0, 1), (3,), (3, 3), (1, 2, 0) * 4000]
        wrong = [(), (0,), (0, 1), (4,), (0, 1, 2, 0), (1, 3), (3, 4), (False, 1, 2), (0, True, 2), [3], (3.5,), (6,),
                 ((3,),), ("3",)]
        self.judged(lambda value: is_round(G, value), right, wrong)

    def test_is_closed(self):
        for graph in GRAPHS:
            for lot in lots(len(graph)):
                stays = all([node in lot for known in lot for node in graph[known]])
                self.same(is_closed(graph, lot), stays)
        right = [(), (5,), (4, 5), (3, 4, 5), (0, 1, 2, 3, 4, 5)]
        wrong = [(0,), (4,), (5, 4), (5, 5), (0, 1, 2), (6,), (-1,), [5], ([5],), (True,), (5, None), ((5,),)]
        self.judged(lambda value: is_closed(G, value), right, wrong)
        self.same(is_closed(((0, 1), (1,)), (True,)), False)
        self.same(is_closed(((),), (False,)), False)

    def test_way_answer_is_the_least_shortest_way_or_what_is_come_to(self):
        for graph in GRAPHS:
            chosen = lots(len(graph)) if len(graph) < 4 else [(), (0,), (1, 2), (0, 3)]
            for begins, goals in product(chosen, repeat=2):
                self.same(way_answer(graph, begins, goals), self.by_trying(graph, begins, goals))

    def by_trying(self, graph, begins, goals):
        if not set(come(graph, begins)) & set(goals):
            return ("closed", come(graph, begins))
        length = 1
        while True:
            ways = [way for way in ways_from(graph, begins, length) if way[-1] in goals]
            if ways:
                return ("way", ways[0])
            length += 1

    def test_way_answer_with_several_shortest_ways(self):
        graph = ((3, 4), (2, 3), (5,), (5, 6), (5,), (), ())
        self.same(way_answer(graph, (0, 1), (5, 6)), ("way", (0, 3, 5)))
        self.same(way_answer(graph, (1,), (5,)), ("way", (1, 2, 5)))
        self.same(way_answer(graph, (0, 1, 6), (5, 6)), ("way", (6,)))
        self.same(way_answer(graph, (0, 2, 3), (5,)), ("way", (2, 5)))

    def test_edges(self):
        self.same(way_answer((), (), ()), ("closed", ()))
        self.same(way_answer(G, (), (0,)), ("closed", ()))
        self.same(way_answer(G, (4,), ()), ("closed", (4, 5)))
        self.same(way_answer(G, (3, 4), (3, 4)), ("way", (3,)))
        self.same(come_to(G, ()), ())
        self.same(come_to((), ()), ())

    def test_a_beginning_of_a_shortest_way_is_a_shortest_way(self):
        for graph in some_graphs():
            kind, way = way_answer(graph, (0, 1), (len(graph) - 1,))
            for many in range(1, len(way) + 1):
                if kind == "way":
                    begun = way_answer(graph, (0, 1), (way[many - 1],))
                    self.same(len(begun[1]), many)

    def test_is_way_answer(self):
        for graph in all_graphs(2):
            values = [way for length in range(5) for way in product(range(2), repeat=length)]
            for begins, goals in product(lots(2), repeat=2):
                for value in values:
                    leads_there = is_way(graph, value) and value[0] in begins and value[-1] in goals
                    self.same(is_way_answer(graph, begins, goals, ("way", value)), leads_there)
                    parts = is_closed(graph, value) and set(begins) <= set(value) and not set(goals) & set(value)
                    self.same(is_way_answer(graph, begins, goals, ("closed", value)), parts)

    def test_either_or(self):
        for graph in all_graphs(2) + some_graphs():
            for begins, goals in product([(0,), (1,), (0, 1), ()], repeat=2):
                answer = way_answer(graph, begins, goals)
                self.same(is_way_answer(graph, begins, goals, answer), True)
                closed = [lot for lot in lots(min(len(graph), 7))
                          if is_way_answer(graph, begins, goals, ("closed", lot))]
                if answer[0] == "way":
                    self.same(closed, [])

    def test_answers_near_by_are_wrong(self):
        right = [("way", (0, 1, 3, 4)), ("way", (0, 1, 2, 0, 1, 3, 3, 4)), ("way", (0, 1, 3, 4, 5))]
        wrong = [("way", (0, 1, 3)), ("way", (1, 3, 4)), ("way", ()), ("way", 4), ("way", [0, 1, 3, 4]), ("way",),
                 ("way", (0, 1, 3, 4), 0), ("closed", (0, 1, 3, 4)), ["way", (0, 1, 3, 4)], ("ways", (0, 1, 3, 4)),
                 ("way", (False, 1, 3, 4)), ("way", (0, True, 3, 4)), ("closed", (0, 1, 2, 3, 4, 5)), (0, 1, 3, 4)]
        self.judged(lambda value: is_way_answer(G, (0,), (4, 5), value), right, wrong)
        right = [("closed", (4, 5)), ("closed", (3, 4, 5))]
        wrong = [("closed", (4,)), ("closed", (5,)), ("closed", ()), ("closed", (5, 4)), ("closed", [4, 5]), ("closed",),
                 ("closed", (0, 1, 2, 3, 4, 5)), ("way", (4, 5)), ("closed", (4, 5, 5)), ("closed", (4, 5), ()),
                 ("close", (4, 5)), ("", (4, 5)), (None, (4, 5)), (True, (4, 5)), (("closed",), (4, 5)), ((4, 5), "closed")]
        self.judged(lambda value: is_way_answer(G, (4,), (0,), value), right, wrong)
        self.judged(lambda value: is_way_answer((), (), (), value), [("closed", ())], [("way", ()), ("closed", (0,))])


class Knots(Case):
    def test_knots(self):
        for graph in GRAPHS:
            found = []
            for node in range(len(graph)):
                if leads(graph, node, node) and not [lot for lot in found if node in lot]:
                    found.append(tuple([other for other in range(len(graph))
                                        if leads(graph, node, other) and leads(graph, other, node)]))
            self.same(knots(graph), tuple(found))

    def test_a_node_by_itself_is_a_knot_just_if_it_follows_itself(self):
        self.same(knots(((0,),)), ((0,),))
        self.same(knots(((),)), ())
        self.same(knots(((1,), ())), ())
        self.same(knots(()), ())

    def test_knots_by_ascending_first_nodes(self):
        self.same(knots(((4,), (3,), (2,), (1, 2), (0,))), ((0, 4), (1, 3), (2,)))

    def test_round_through(self):
        for graph in GRAPHS:
            for node in range(len(graph)):
                found = round_through(graph, node)
                rounds = []
                for length in range(1, len(graph) + 1):
                    rounds = rounds or [way for way in ways_from(graph, (node,), length) if node in graph[way[-1]]]
                self.same(found, rounds[0] if rounds else None)
                self.assertEqual(found is None, not [lot for lot in knots(graph) if node in lot])

    def test_a_round_has_no_node_twice_and_stays_in_its_knot(self):
        for graph in some_graphs():
            for lot in knots(graph):
                for node in lot:
                    found = round_through(graph, node)
                    self.same(is_round(graph, found), True)
                    self.assertEqual(len(set(found)), len(found))
                    self.assertTrue(set(found) <= set(lot))

    def test_several_shortest_rounds(self):
        graph = ((1, 2, 3), (4,), (0,), (0,), (0,))
        self.same(round_through(graph, 0), (0, 2))
        self.same(round_through(graph, 3), (3, 0))
        self.same(round_through(graph, 4), (4, 0, 1))
        self.same(round_through(((0, 1), (0,)), 0), (0,))


class Great(Case):
    """Graphs of 20,000 nodes, and of 20,001."""

    def test_a_ring(self):
        many = 20000
        ring = tuple([(node + 1,) for node in range(many - 1)]) + ((0,),)
        self.same(knots(ring), (tuple(range(many)),))
        self.same(round_through(ring, 7), tuple(range(7, many)) + tuple(range(7)))
        self.same(way_answer(ring, (1,), (0,)), ("way", tuple(range(1, many)) + (0,)))
        self.same(come_to(ring, (5,)), tuple(range(many)))
        self.same(is_round(ring, tuple(range(many))), True)
        self.same(is_closed(ring, tuple(range(many))), True)
        self.same(is_closed(ring, tuple(range(many - 1))), False)
        self.same(turned(turned(ring)), ring)
        self.all_refused(InvalidGraph, knots, [ring + ((),)])

    def test_a_row(self):
        many = 20000
        row = tuple([(node + 1,) for node in range(many - 1)]) + ((),)
        self.same(knots(row), ())
        self.same(round_through(row, 0), None)
        self.same(way_answer(row, (0,), (many - 1,)), ("way", tuple(range(many))))
        self.same(way_answer(row, (many - 1,), (0,)), ("closed", (many - 1,)))
        self.same(is_way_answer(row, (0,), (many - 1,), ("way", tuple(range(many)))), True)

    def test_many_followers(self):
        full = (tuple(range(700)),) * 700
        self.same(knots(full), (tuple(range(700)),))
        self.same(way_answer(full, (3,), (9,)), ("way", (3, 9)))
        star = (tuple(range(20000)),) + ((),) * 19999
        self.same(knots(star), ((0,),))
        self.same(is_way(star, (0,) * 20000), True)

    def test_one_node_more_is_no_graph(self):
        self.same(is_graph(((),) * 20000), True)
        self.same(is_graph(((),) * 20001), False)
        self.refused(InvalidGraph, come_to, ((),) * 20001, ())

    def test_equal_calls_return_equal_results(self):
        for graph in some_graphs()[:5]:
            self.same(knots(graph), knots(graph))
            self.same(way_answer(graph, (0,), (1,)), way_answer(graph, (0,), (1,)))

    def test_judges_take_every_value(self):
        for judge in (is_way, is_closed, is_round):
            for value in EVERYTHING:
                self.assertIn(judge(G, value), (True, False))

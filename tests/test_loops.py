"""What stage 12 rests on: classes on rounds and whole readings, against the graph of all nodes."""
import random

from anymargin.base.graphs import knots
from anymargin.clock.corners import corners
from anymargin.come.every import every_nodes, points_with_every
from anymargin.come.loops import class_at, knot_corners, knot_nodes, round_stands
from anymargin.come.plain import class_graph, moved_node, plain_answer, rooms_come_to
from anymargin.come.points import bit_of, box, first_points, plan_of
from anymargin.machine.machines import Machine
from tests.support import BASE, HOLDS, MACHINE, Case, is_tight, random_machine
from tests.test_every import SPIN, TIGHT


def tight_machines(seed, many):
    chosen = random.Random(seed)
    found = list(TIGHT)
    while len(found) < many:
        clocks = chosen.choice((1, 2, 2, 2))
        lots = [(0,), (clocks - 1,), tuple(range(clocks)), ()]
        machine = random_machine(chosen, clocks, chosen.choice((2, 3, 4)), chosen.choice((4, 5, 6)), lots[:3] * 2 + lots)
        if is_tight(machine):
            found.append(machine)
    return found


CASES = tight_machines(220, 190)


def bits_of(rooms, nodes):
    """For each room the bits of all corners of the nodes."""
    found = [0] * rooms
    for room, cls in nodes:
        for corner in corners(cls):
            found[room] |= bit_of(corner)
    return found


class Loops(Case):
    def test_knots(self):
        many = 0
        for machine in CASES:
            nodes, graph = class_graph(machine)
            wanted = sorted([[nodes[place] for place in knot] for knot in knots(graph)])
            found = round_stands(machine)
            self.same(sorted([knot_nodes(knot) for knot in found]), wanted)
            for knot in found:
                self.same(knot_corners(machine.rooms, knot), bits_of(machine.rooms, knot_nodes(knot)))
            many += len(found)
        self.assertGreater(many, 80)

    def test_three_clocks(self):
        chosen = random.Random(221)
        lots = [(0, 1), (1, 2), (0, 2), (0, 1, 2), (0,), (2,)]
        done = 0
        while done < 12:
            machine = random_machine(chosen, 3, 2, 4, lots)
            limits = tuple([tuple([min(limit, 2) for limit in row]) for row in machine.limits])
            doors = tuple([(room, tuple([(min(low, 1), high) for low, high in guards]), resets, goal)
                           for room, guards, resets, goal in machine.doors])
            machine = Machine(3, limits, doors)
            if not is_tight(machine):
                continue
            nodes, graph = class_graph(machine)
            wanted = sorted([[nodes[place] for place in knot] for knot in knots(graph)])
            self.same(sorted([knot_nodes(knot) for knot in round_stands(machine)]), wanted)
            done += bool(wanted)

    def test_spots(self):
        """As all spots grow by one, the class is the next one in time."""
        machine = Machine(3, ((4, 4, 4),), ())
        for size, spots in ((1, (0, 0, 2)), (2, (0, 2, 0)), (3, (0, 2, 4)), (3, (4, 2, 0)), (2, (1, 3, 3)), (3, (3, 5, 1))):
            node = (0, class_at(size, list(spots)))
            for step in range(1, 6):
                node = moved_node(machine, node, ("wait",))
                self.same(node, (0, class_at(size, [spot + step for spot in spots])))


class Points(Case):
    def test_whole_readings_that_are_come_to(self):
        for machine in CASES:
            points = first_points(machine, plan_of(machine))
            exact = plain_answer(machine, machine.rooms - 1)
            self.same(tuple([room for room in range(machine.rooms) if points[room]]), rooms_come_to(machine))
            if exact[0] == "never":
                self.same(points, bits_of(machine.rooms, exact[1]))

    def test_whole_readings_that_are_come_to_with_every_margin(self):
        more = 0
        for machine in CASES:
            points, touched = points_with_every(machine)
            self.same(points, bits_of(machine.rooms, every_nodes(machine)))
            more += points != first_points(machine, plan_of(machine))
            lot = set(every_nodes(machine))
            for knot in round_stands(machine):
                self.same(knot in touched, set(knot_nodes(knot)) <= lot)
        self.assertGreater(more, 15)

    def test_boxes(self):
        for pairs in (((0, 4),), ((1, 3), (2, 2)), ((0, 1), (4, 4), (0, 2)), ((2, 1), (0, 4))):
            rows = [()]
            for low, high in pairs:
                rows = [row + (number,) for row in rows for number in range(low, high + 1)]
            self.same(box(pairs), sum([bit_of(row) for row in rows]))

    def test_edges(self):
        self.same([first_points(machine, plan_of(machine)) for machine in (MACHINE, Machine(1, ((0,), (4,)), ()))], [[7], [1, 0]])
        self.same((round_stands(MACHINE), round_stands(Machine(3, ((0, 0, 0),), ()))), ([], []))
        far = Machine(1, ((1,), (1,)), ((1, ((0, 1),), (0,), 1),))
        for machine, many, touched in ((SPIN, 1, 1), (HOLDS, 1, 1), (BASE, 5, 5), (far, 1, 0)):
            found = round_stands(machine)
            self.same((len(found), len(points_with_every(machine)[1])), (many, touched))

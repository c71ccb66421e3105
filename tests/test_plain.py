"""Stage 10: what is come to exactly, against readings that are tried: whole ones, and points of classes."""
import random
from fractions import Fraction

from anymargin import errors
from anymargin.base.graphs import is_graph
from anymargin.clock.classes import class_of, classes_within, told_point
from anymargin.come import plain as module
from anymargin.come.plain import (
    class_graph, is_node, is_plain_answer, moved_node, plain_answer, rooms_come_to, run_along)
from anymargin.errors import InvalidMachine, InvalidNumber, InvalidOperation, Refused
from anymargin.machine.machines import Machine, with_door, with_limits
from anymargin.machine.runs import is_run, needed, room_behind
from tests.support import (
    BASE, EVERYTHING, HOLDS, LONG, MACHINE, NO_INTEGERS, NO_TUPLES, Case, numbers, random_machine, told)
from tests.test_classes import NO_CLASSES
from tests.test_runs import NO_MACHINES, NO_RUNS

EXAMPLES = """
>>> ONE = Machine(1, ((2,), (2,)), ((0, ((1, 2),), (0,), 1),))
>>> NODES, GRAPH = class_graph(ONE)
>>> [len(NODES), NODES[1], NODES[0], GRAPH]
[10, (0, ((0,), ((0,),))), (0, ((0,), ((), (0,)))), ((3,), (0,), (4, 6), (2, 6), (6,), (8,), (5,), (9,), (7,), ())]
>>> [moved_node(ONE, NODES[3], ("door", 0)) == NODES[6], moved_node(ONE, NODES[0], ("door", 0)), moved_node(ONE, NODES[4], ("wait",))]
[True, None, None]
>>> [plain_answer(ONE, 0), is_plain_answer(ONE, 1, ("come", (((3, 2), 0),))), is_plain_answer(ONE, 1, ("come", (((1, 2), 0),))), rooms_come_to(ONE)]
[('come', ()), True, False, (0, 1)]
>>> FAR = Machine(1, ((2,), (2,)), ((0, ((3, 4),), (), 1),))
>>> [plain_answer(FAR, 1) == ("never", NODES[:5]), is_plain_answer(FAR, 1, ("never", NODES[1:5]))]
[True, False]
>>> run_along(ONE, (("wait",), ("door", 0)))
raises Refused(('move', 1))
"""

WAIT = ("wait",)
ONE = Machine(1, ((2,), (2,)), ((0, ((1, 2),), (0,), 1),))
FAR = Machine(1, ((2,), (2,)), ((0, ((3, 4),), (), 1),))

# What is no move of a machine with one door.
NO_MOVES = NO_TUPLES + ((), ("wait", 0), ("wait", ()), ("door",), ("door", 1), ("door", -1), ("door", True),
                        ("door", False), ("door", None), ("door", "0"), ("door", (0,)), ("door", 0, 0), ("", 0), (0, 0),
                        (0,), ["wait"], ["door", 0], (("wait",),), ("Wait",), ("door", LONG), ("round", (), (), ()))


def random_machines(seed, many, clocks=(1, 2)):
    chosen = random.Random(seed)
    return [random_machine(chosen, clocks[at % len(clocks)], chosen.choice((1, 2, 3, 6)), chosen.choice((0, 2, 5, 9, 12)))
            for at in range(many)]


MACHINES = random_machines(100, 60) + random_machines(101, 6, (3,)) + [HOLDS, BASE, ONE, FAR]


def keeps(readings, machine, room):
    return all([reading <= limit for reading, limit in zip(readings, machine.limits[room])])


def whole_rooms(machine):
    """The rooms come to with whole readings, step by step; [10.5] tells that these decide."""
    start = (0, (0,) * machine.clocks)
    found, rows = {start}, [start]
    for room, readings in rows:
        nexts = [(room, tuple([reading + 1 for reading in readings]))]
        for begin, guards, resets, goal in machine.doors:
            if begin == room and all([low <= x <= high for x, (low, high) in zip(readings, guards)]):
                nexts.append((goal, tuple([0 if at in resets else x for at, x in enumerate(readings)])))
        for place in nexts:
            if place not in found and keeps(place[1], machine, place[0]):
                found.add(place)
                rows.append(place)
    return tuple(sorted({room for room, readings in found}))


def point_moved(machine, node, move):
    """The node behind a move, found by readings of the class; None if it is not let."""
    room, cls = node
    row = numbers(told_point(cls))
    if move == WAIT:
        if 4 in row:
            return None
        greatest = max([x % 1 for x in row])
        # To the next whole number, or a bit onwards: less than any rest is away from 1.
        wait = (1 - greatest) / 2 if 0 in [x % 1 for x in row] else 1 - greatest
        room, row = room, [x + wait for x in row]
    else:
        begin, guards, resets, goal = machine.doors[move[1]]
        if begin != room or not all([low <= x <= high for x, (low, high) in zip(row, guards)]):
            return None
        room, row = goal, [Fraction(0) if at in resets else x for at, x in enumerate(row)]
    return (room, class_of(told(row))) if keeps(row, machine, room) else None


def moves(machine):
    return [WAIT] + [("door", index) for index in range(len(machine.doors))]


class Nodes(Case):
    def test_examples(self):
        self.examples(EXAMPLES, dict(vars(module), Machine=Machine), vars(errors))

    def test_is_node(self):
        nodes, graph = class_graph(FAR)
        classes = classes_within((4,))
        wrong = [(room, cls) for room in (0, 1) for cls in classes if (room, cls) not in nodes]
        wrong += [(room, nodes[1][1]) for room in NO_INTEGERS + (2, -1)] + [(0, cls) for cls in NO_CLASSES]
        wrong += [(), nodes[0][:1], nodes[0] + (0,), list(nodes[0]), nodes[0][1], (0, ((0, 0), ((0, 1),)))]
        self.judged(lambda value: is_node(FAR, value), nodes, wrong)
        self.all_refused(InvalidMachine, lambda machine: is_node(machine, 0), NO_MACHINES)

    def test_all_nodes(self):
        for machine in MACHINES:
            nodes, graph = class_graph(machine)
            wanted = [(room, cls) for room in range(machine.rooms) for cls in classes_within((4,) * machine.clocks)
                      if keeps(numbers(told_point(cls)), machine, room)]
            self.same(nodes, tuple(sorted(wanted)))
            self.same((is_graph(graph), len(graph)), (True, len(nodes)))

    def test_moves_lead_as_points_are_led(self):
        for machine in MACHINES[::2]:
            nodes, graph = class_graph(machine)
            places = {node: place for place, node in enumerate(nodes)}
            for node, row in list(zip(nodes, graph))[::1 if machine.clocks < 3 else 17]:
                found = [moved_node(machine, node, move) for move in moves(machine)]
                self.same(found, [point_moved(machine, node, move) for move in moves(machine)])
                self.same(row, tuple(sorted({places[behind] for behind in found if behind is not None})))

    def test_equal_bounds_are_kept(self):
        machine = Machine(1, ((1,), (0,)), ((0, ((1, 1),), (0,), 1), (0, ((1, 1),), (), 1)))
        one, zero = ((1,), ((0,),)), ((0,), ((0,),))
        self.same(moved_node(machine, (0, ((0,), ((), (0,)))), WAIT), (0, one))
        self.same(moved_node(machine, (0, one), WAIT), None)
        self.same(moved_node(machine, (0, one), ("door", 0)), (1, zero))
        self.same(moved_node(machine, (0, one), ("door", 1)), None)
        self.same(moved_node(machine, (1, zero), WAIT), None)
        self.same(moved_node(machine, (1, zero), ("door", 0)), None)

    def test_the_greatest_machine(self):
        machine = Machine(3, ((4, 4, 4),) * 6, ())
        nodes, graph = class_graph(machine)
        self.same((len(nodes), is_graph(graph)), (11862, True))
        self.same(sum([len(row) for row in graph]), len(nodes) - sum([moved_node(machine, node, WAIT) is None
                                                                      for node in nodes]))

    def test_a_machine_of_one_node(self):
        machine = Machine(1, ((0,),), ((0, ((0, 0),), (), 0),))
        self.same(class_graph(machine), (((0, ((0,), ((0,),))),), ((0,),)))
        self.same(class_graph(Machine(1, ((0,),), ())), (((0, ((0,), ((0,),))),), ((),)))

    def test_wrong_arguments(self):
        node = (0, ((0,), ((0,),)))
        for call in (class_graph, rooms_come_to):
            self.all_refused(InvalidMachine, call, NO_MACHINES)
        self.all_refused(InvalidMachine, lambda machine: moved_node(machine, 0, 0), NO_MACHINES)
        wrong = EVERYTHING + ((0, ((3,), ((0,),))), (2, node[1]), (True, node[1]), list(node))
        wrong = [value for value in wrong if not is_node(ONE, value)]
        self.all_refused(InvalidOperation, lambda value: moved_node(ONE, value, 0), wrong)
        self.all_refused(InvalidOperation, lambda value: moved_node(ONE, value, WAIT), wrong)
        self.all_refused(InvalidOperation, lambda move: moved_node(ONE, node, move), NO_MOVES)


class Along(Case):
    def walked(self, chosen, machine, many):
        """Some moves that are let, and the node behind each of them."""
        node, row = (0, ((0,) * machine.clocks, (tuple(range(machine.clocks)),))), []
        for _ in range(many):
            nexts = [(move, moved_node(machine, node, move)) for move in moves(machine)]
            nexts = [(move, behind) for move, behind in nexts if behind is not None]
            if not nexts:
                break
            move, node = chosen.choice(nexts)
            row.append(move)
        return tuple(row)

    def test_runs_along_moves(self):
        chosen = random.Random(102)
        longest = 0
        for machine in MACHINES:
            for _ in range(4):
                row = self.walked(chosen, machine, 40)
                run = run_along(machine, row)
                self.same((is_run(machine, run), needed(machine, run)), (True, (0, 1)))
                self.same([door for wait, door in run], [move[1] for move in row if move != WAIT])
                self.same({wait[1] for wait, door in run} <= {1}, True)
                longest = max(longest, len(run))
        self.assertGreater(longest, 15)

    def test_the_first_move_that_is_not_let(self):
        chosen = random.Random(103)
        for machine in MACHINES:
            row = self.walked(chosen, machine, 12)
            for move in moves(machine):
                for at in range(len(row) + 1):
                    other = row[:at] + (move,) + row[at:]
                    node, index = (0, ((0,) * machine.clocks, (tuple(range(machine.clocks)),))), 0
                    while index < len(other) and node is not None:
                        node = moved_node(machine, node, other[index])
                        index += 1
                    if node is None:
                        self.refused(Refused, run_along, machine, other, reason=("move", index - 1))
                    else:
                        self.same(needed(machine, run_along(machine, other)), (0, 1))

    def test_edges(self):
        self.same((run_along(ONE, ()), run_along(ONE, (WAIT,) * 4)), ((), ()))
        self.same(run_along(ONE, (WAIT, WAIT, ("door", 0), WAIT)), (((1, 1), 0),))
        self.refused(Refused, run_along, ONE, (WAIT,) * 5, reason=("move", 4))
        loop = Machine(1, ((0,),), ((0, ((0, 0),), (0,), 0),))
        self.same(run_along(loop, (("door", 0),) * 20000), (((0, 1), 0),) * 20000)
        self.refused(InvalidOperation, run_along, loop, (("door", 0),) * 20001)

    def test_wrong_arguments(self):
        self.all_refused(InvalidMachine, lambda machine: run_along(machine, 0), NO_MACHINES)
        wrong = NO_TUPLES + tuple([(move,) for move in NO_MOVES]) + ((WAIT, 0), (WAIT, WAIT, None), [WAIT], WAIT)
        self.all_refused(InvalidOperation, lambda row: run_along(ONE, row), wrong)
        # What is no move counts ahead of a move that is not let.
        self.refused(InvalidOperation, run_along, ONE, (("door", 0), ("door", 1)))


class Answers(Case):
    def test_whole_readings_decide(self):
        for machine in MACHINES:
            self.same(rooms_come_to(machine), whole_rooms(machine))

    def test_answers(self):
        counts = {"come": 0, "never": 0}
        for machine in MACHINES:
            rooms = whole_rooms(machine)
            for room in range(machine.rooms):
                kind, paper = plain_answer(machine, room)
                counts[kind] += 1
                self.same(kind, "come" if room in rooms else "never")
                self.same(is_plain_answer(machine, room, (kind, paper)), True)
                if kind == "come":
                    self.same((is_run(machine, paper), room_behind(machine, paper), needed(machine, paper)),
                              (True, room, (0, 1)))
                    self.assertTrue(all([wait[1] == 1 for wait, door in paper]))
                    self.assertLessEqual(len(paper), 12000)
                else:
                    self.same(paper, self.come_to(machine))
        self.assertGreater(min(counts.values()), 40)

    def come_to(self, machine):
        """All nodes come to, found move by move."""
        rows = [(0, ((0,) * machine.clocks, (tuple(range(machine.clocks)),)))]
        for node in rows:
            for move in moves(machine):
                behind = point_moved(machine, node, move)
                if behind is not None and behind not in rows:
                    rows.append(behind)
        return tuple(sorted(rows))

    def test_room_zero_is_come_to(self):
        for machine in MACHINES:
            self.same(plain_answer(machine, 0), ("come", ()))

    def test_judged_runs(self):
        right = [("come", (((wait, 2), 0),)) for wait in (3,)] + [("come", (((1, 1), 0),)), ("come", (((2, 1), 0),))]
        wrong = [("come", (((1, 2), 0),)), ("come", (((5, 2), 0),)), ("come", ()), ["come", (((1, 1), 0),)],
                 ("come", [((1, 1), 0)]), ("come",), ("never", (((1, 1), 0),)), ("come", (((1, 1), 0),), 0),
                 ("come", (((1, 1), False),)), ("come", (((True, 1), 0),)), ("Come", (((1, 1), 0),))]
        self.judged(lambda value: is_plain_answer(ONE, 1, value), right, wrong + [("come", run) for run in NO_RUNS])
        self.judged(lambda value: is_plain_answer(ONE, 0, value), [("come", ())], right + [("never", ())])

    def test_judged_lots(self):
        nodes, graph = class_graph(FAR)
        here, there = nodes[:5], nodes[5:]
        right = [("never", here)]
        wrong = [("never", lot) for lot in (
            (), here[1:], here[:4], here[::-1], here + here[-1:], list(here), nodes, here + there[:1], there, 0,
            (here[0], (0, ((0,), ((False,),)))) + here[2:], here[:1] + ((0, ((False,), ((0,),))),) + here[2:],
            here[:4] + ((0, ((2,), [(0,)])),), here[:4] + (None,), here[:4] + ((0, ((3,), ((0,),))),))]
        self.judged(lambda value: is_plain_answer(FAR, 1, value), right, wrong + [("come", here), ("never",), here])
        # A closed lot can have more than what is come to: but no node of the room.
        machine = Machine(1, ((2,), (2,), (2,)), ((0, ((3, 4),), (), 1),))
        nodes = class_graph(machine)[0]
        lots = [nodes[:5], nodes[:5] + nodes[10:], nodes[:5] + nodes[14:], nodes[:6]]
        self.same([is_plain_answer(machine, 1, ("never", lot)) for lot in lots], [True, True, True, False])
        self.same(is_plain_answer(machine, 1, ("never", nodes[:5] + nodes[10:11])), False)

    def test_a_lot_that_is_left_by_a_move(self):
        chosen = random.Random(104)
        for machine in MACHINES[:40]:
            for room in range(1, machine.rooms):
                kind, lot = plain_answer(machine, room)
                if kind == "never" and len(lot) > 1:
                    node = chosen.choice(lot[1:])
                    left = tuple([other for other in lot if other != node])
                    ends = [moved_node(machine, other, move) for other in left for move in moves(machine)]
                    first = (0, ((0,) * machine.clocks, (tuple(range(machine.clocks)),)))
                    self.same(is_plain_answer(machine, room, ("never", left)), node not in ends and node != first)

    def test_more_lets_more(self):
        chosen = random.Random(105)
        for machine in MACHINES:
            rooms = set(rooms_come_to(machine))
            if len(machine.doors) < 12:
                door = random_machine(chosen, machine.clocks, machine.rooms, 1).doors[0]
                self.assertLessEqual(rooms, set(rooms_come_to(with_door(machine, door))))
            room = chosen.randrange(machine.rooms)
            limits = tuple([min(4, limit + 1) for limit in machine.limits[room]])
            self.assertLessEqual(rooms, set(rooms_come_to(with_limits(machine, room, limits))))
            doors = [(begin, tuple([(max(0, low - 1), min(4, high + 1)) for low, high in guards]), resets, goal)
                     for begin, guards, resets, goal in machine.doors]
            self.assertLessEqual(rooms, set(rooms_come_to(Machine(machine.clocks, machine.limits, tuple(doors)))))

    def test_loose_machines_are_let(self):
        machine = Machine(1, ((4,), (4,)), ((0, ((0, 4),), (), 0), (0, ((4, 4),), (), 1)))
        self.same((rooms_come_to(machine), needed(machine, plain_answer(machine, 1)[1])), ((0, 1), (0, 1)))

    def test_wrong_arguments(self):
        for call in (plain_answer, lambda machine, room: is_plain_answer(machine, room, 0)):
            self.all_refused(InvalidMachine, lambda machine: call(machine, "a"), NO_MACHINES)
            self.all_refused(InvalidNumber, lambda room: call(ONE, room), NO_INTEGERS + (2, -1), "given")
            self.refused(InvalidNumber, call, MACHINE, 1, given=1)

"""Stage 12: what is come to with every margin, against lots that grow node by node, and against walks for each m."""
import random
from contextlib import ExitStack
from unittest import mock

from anymargin import errors
from anymargin.clock.classes import borders
from anymargin.come import every as module
from anymargin.come import within
from anymargin.come.every import (
    chain_end, chain_to, comes_with_every, every_nodes, is_chain, is_margin_answer, is_round, margin_answer, round_at)
from anymargin.come.plain import class_graph, moved_node, plain_answer, rooms_come_to
from anymargin.come.within import is_table, least_margin, within_answer
from anymargin.errors import InvalidChain, InvalidMachine, InvalidNumber, InvalidOperation, Refused, TooMany
from anymargin.machine.machines import Machine, is_loose
from anymargin.machine.runs import needed
from anymargin.zone.zones import Zone
from tests.support import (
    BASE, EVERYTHING, HOLDS, LONG, MACHINE, NO_INTEGERS, NO_TUPLES, Case, is_tight, random_machine)
from tests.test_classes import NO_CLASSES
from tests.test_plain import NO_MOVES
from tests.test_runs import NO_MACHINES

EXAMPLES = """
>>> P, WAIT = ((0, 0), ((1,), (0,))), ("wait",)
>>> MOVES = (WAIT,) * 5 + (("door", 1),) + (WAIT,) * 2 + (("door", 2),)
>>> CHAIN = (WAIT, WAIT, ("door", 0), ("round", P, MOVES, ((0, 0), ((0, 1),)))) + (WAIT,) * 4 + (("door", 1), ("door", 3))
>>> [is_round(BASE, (1, P), MOVES), is_chain(BASE, CHAIN), chain_end(BASE, CHAIN)[0], is_chain(BASE, CHAIN[:3] + CHAIN[4:])]
[True, True, 3, False]
>>> [comes_with_every(BASE, 3), rooms_come_to(BASE), margin_answer(BASE, 3)[0], margin_answer(HOLDS, 1)[:2], chain_to(HOLDS, 1), chain_end(BASE, ())]
[True, (0, 1, 2), 'every', ('margin', 2), None, (0, ((0, 0), ((0, 1),)))]
>>> comes_with_every(BASE, 4)
raises InvalidNumber(4)
"""

WAIT = ("wait",)
P = ((0, 0), ((1,), (0,)))
MOVES = (WAIT,) * 5 + (("door", 1),) + (WAIT,) * 2 + (("door", 2),)
ZEROS = ((0, 0), ((0, 1),))
LINK = ("round", P, MOVES, ZEROS)
CHAIN = (WAIT, WAIT, ("door", 0), LINK) + (WAIT,) * 4 + (("door", 1), ("door", 3))

FIRST = ((0,), ((0,),))
SPIN = Machine(1, ((1,), (1,)), ((0, ((1, 1),), (0,), 0), (0, ((0, 0),), (), 1)))

# A machine with a loose round: no door puts its second clock back.
LOOSE = Machine(2, ((4, 4), (4, 4)), ((0, ((1, 4), (0, 4)), (0,), 1), (1, ((0, 4), (0, 4)), (), 0)))

# The same guards, once with and once without what puts the second clock back.
HALF = Machine(2, ((2, 2),), ((0, ((1, 1), (0, 4)), (0,), 0), (0, ((0, 0), (2, 2)), (1,), 0)))


def variant(chosen, machine, many):
    """A machine that differs from another one in so many places."""
    doors, limits = [list(door) for door in machine.doors], list(machine.limits)
    for _ in range(many):
        door = chosen.choice(doors)
        kind = chosen.randrange(5)
        other = random_machine(chosen, machine.clocks, len(limits), 1).doors[0]
        if kind == 0:
            clock = chosen.randrange(machine.clocks)
            door[1] = door[1][:clock] + (other[1][clock],) + door[1][clock + 1:]
        elif kind == 1:
            door[2] = other[2]
        elif kind == 2:
            door[chosen.choice((0, 3))] = other[0]
        elif kind == 3:
            room = chosen.randrange(len(limits))
            limits[room] = tuple([chosen.choice((2, 3, 4)) for _ in range(machine.clocks)])
        elif len(doors) < 7:
            doors.append(list(other))
    return Machine(machine.clocks, tuple(limits), tuple([tuple(door) for door in doors]))


def with_a_third_clock(chosen, machine):
    """The machine with one more clock, which most doors put back."""
    doors = [(room, guards + (chosen.choice(((0, 4), (0, 4), (0, 2), (1, 4))),),
              resets + ((2,) if chosen.randrange(5) else ()), goal) for room, guards, resets, goal in machine.doors]
    return Machine(3, tuple([limits + (chosen.choice((2, 3)),) for limits in machine.limits]), tuple(doors))


def tight_machines(seed, many):
    """Tight machines: chosen ones, and some that are like BASE, in which small errors add up."""
    chosen = random.Random(seed)
    found = [HOLDS, BASE, SPIN, MACHINE]
    pool = [BASE]
    while len(found) < many:
        if len(found) % 3 == 0:
            machine = random_machine(chosen, chosen.choice((1, 2)), chosen.choice((2, 3)), chosen.choice((2, 4, 6)))
        elif len(found) % 11 == 0:
            machine = with_a_third_clock(chosen, BASE)
        else:
            machine = variant(chosen, chosen.choice(pool), chosen.choice((1, 2, 3)))
        if is_tight(machine):
            found.append(machine)
            # What comes further by small errors is changed on and on.
            if machine.clocks == 2 and len(set(rooms_come_to(machine))) < len({node[0] for node in every_nodes(machine)}):
                pool.append(machine)
    return found


TIGHT = tight_machines(120, 70)


def limited(word, value):
    """Another limit, in both modules that know it."""
    stack = ExitStack()
    for place in (module, within):
        if hasattr(place, word):
            stack.enter_context(mock.patch.object(place, word, value))
    return stack


def first_of(machine):
    return (0, ((0,) * machine.clocks, (tuple(range(machine.clocks)),)))


def reached(graph, begin):
    """All nodes behind one or more moves."""
    found, rows = set(), [begin]
    for place in rows:
        for follower in graph[place]:
            if follower not in found:
                found.add(follower)
                rows.append(follower)
    return found


def grown(machine):
    """The nodes come to with every margin, by [12.2], for a tight machine: all that can be added is, again and again."""
    nodes, graph = class_graph(machine)
    on_rounds = [nodes[place] for place in range(len(nodes)) if place in reached(graph, place)]
    closures = {node: {(node[0], cls) for cls in borders(node[1])} for node in on_rounds}
    places = {node: place for place, node in enumerate(nodes)}
    lot = {first_of(machine)}
    while True:
        more = {nodes[place] for node in lot for place in graph[places[node]]}
        for node in on_rounds:
            if closures[node] & lot:
                more |= closures[node]
        if more <= lot:
            return tuple(sorted(lot))
        lot |= more


class Rounds(Case):
    def test_examples(self):
        names = dict(vars(module), BASE=BASE, HOLDS=HOLDS, rooms_come_to=rooms_come_to)
        self.examples(EXAMPLES, names, vars(errors))

    def test_constant(self):
        self.same(module.MOST_LINKS, 20000)

    def test_rounds_of_tight_machines(self):
        for machine in TIGHT[:40]:
            nodes, graph = class_graph(machine)
            for place in range(0, len(nodes), 3 if machine.clocks < 3 else 101):
                found = round_at(machine, nodes[place])
                self.same(found is not None, place in reached(graph, place))
                if found is not None:
                    self.same(is_round(machine, nodes[place], found), True)
                    self.same(self.is_right(machine, nodes[place], found), True)
                    self.assertLessEqual(len(found), 12000)

    def is_right(self, machine, node, row):
        """What [12.1] asks for, move by move."""
        now, clocks = node, set()
        for move in row:
            now = moved_node(machine, now, move)
            if now is None:
                return False
            clocks |= set(machine.doors[move[1]][2]) if move != WAIT else set()
        return now == node and clocks == set(range(machine.clocks))

    def test_rounds_of_loose_machines(self):
        chosen = random.Random(121)
        counts = {True: 0, False: 0}
        while min(counts.values()) < 30:
            machine = random_machine(chosen, 2, 2, chosen.choice((3, 5)))
            if is_tight(machine):
                continue
            nodes, graph = class_graph(machine)
            for place in range(0, len(nodes), 7):
                lot = reached(graph, place)
                knot = [nodes[other] for other in lot | {place} if place in reached(graph, other)]
                backs = set()
                for node in knot:
                    for index, door in enumerate(machine.doors):
                        if moved_node(machine, node, ("door", index)) in knot:
                            backs |= set(door[2])
                # All nodes of a knot lie on one round, with all doors between them.
                wanted = place in lot and backs == {0, 1}
                found = round_at(machine, nodes[place])
                self.same(found is not None, wanted)
                if found is not None:
                    self.same(self.is_right(machine, nodes[place], found), True)
                    self.same(is_round(machine, nodes[place], found), True)
                elif place in lot:
                    counts[False] += 1
                counts[True] += wanted
        self.same(round_at(LOOSE, first_of(LOOSE)), None)

    def test_judged_rounds(self):
        node = (1, P)
        right = [MOVES, MOVES * 2, MOVES * 2222]
        wrong = [(), MOVES[:-1], MOVES[1:], MOVES * 2223, list(MOVES), (MOVES,), MOVES[:5] + (("door", True),) + MOVES[6:],
                 MOVES[:5] + (("door", 0),) + MOVES[6:], MOVES[:5] + (["door", 1],) + MOVES[6:], MOVES + (WAIT,),
                 MOVES[:8] + (("door", 3),), MOVES[:8] + (("door", 4),), MOVES + (None,)]
        wrong += [MOVES[:-1] + (move,) for move in NO_MOVES if move != ("door", 1)]
        self.judged(lambda value: is_round(BASE, node, value), right, wrong)
        # The doors have to put each clock back: of a loose machine they do not always.
        row = (("door", 0), ("door", 1))
        machine = Machine(2, ((4, 4), (4, 4)), ((0, ((0, 4), (0, 4)), (0,), 1), (1, ((0, 4), (0, 4)), (), 0),
                                                (1, ((0, 4), (0, 4)), (1,), 0)))
        self.same([is_round(machine, first_of(machine), value) for value in (row, row + (("door", 0), ("door", 2)))],
                  [False, True])
        self.same(is_round(SPIN, (0, FIRST), (WAIT, WAIT, ("door", 0))), True)

    def test_the_longest_round(self):
        machine = Machine(1, ((0,),), ((0, ((0, 0),), (0,), 0),))
        self.same([is_round(machine, (0, FIRST), (("door", 0),) * many) for many in (0, 1, 20000, 20001)],
                  [False, True, True, False])

    def test_wrong_arguments(self):
        node = first_of(BASE)
        for call in (round_at, lambda machine, value: is_round(machine, value, 0)):
            self.all_refused(InvalidMachine, lambda machine: call(machine, 0), NO_MACHINES)
            wrong = EVERYTHING + tuple([(0, cls) for cls in NO_CLASSES]) + ((4, node[1]), (True, node[1]), list(node))
            self.all_refused(InvalidOperation, lambda value: call(BASE, value), wrong)
        for call in (every_nodes,):
            self.all_refused(InvalidMachine, call, NO_MACHINES)
        for call in (comes_with_every, chain_to, margin_answer, lambda machine, room: is_margin_answer(machine, room, 0)):
            self.all_refused(InvalidMachine, lambda machine: call(machine, "a"), NO_MACHINES)
            self.all_refused(InvalidNumber, lambda room: call(BASE, room), NO_INTEGERS + (4, -1), "given")
            # What is wrong is told ahead of a loose round.
            self.refused(InvalidNumber, call, LOOSE, 2, given=2)

    def test_loose_machines_are_refused(self):
        for call in (every_nodes, lambda machine: comes_with_every(machine, 1), lambda machine: chain_to(machine, 0),
                     lambda machine: margin_answer(machine, 0)):
            for machine in (LOOSE, Machine(1, ((4,), (4,)), ((0, ((4, 4),), (), 0),))):
                with self.assertRaises(Refused) as caught:
                    call(machine)
                word, doors, clock = caught.exception.reason
                self.same((word, is_loose(machine, (doors, clock))), ("loose", True))


class Nodes(Case):
    def test_nodes_come_to_with_every_margin(self):
        more = 0
        for machine in TIGHT:
            found = every_nodes(machine)
            if machine.clocks < 3:
                self.same(found, grown(machine))
            rooms = tuple([comes_with_every(machine, room) for room in range(machine.rooms)])
            self.same(rooms, tuple([room in [node[0] for node in found] for room in range(machine.rooms)]))
            exact = rooms_come_to(machine)
            self.assertLessEqual(set(exact), {node[0] for node in found})
            more += len({node[0] for node in found}) > len(exact)
        self.assertGreater(more, 10)

    def test_three_clocks(self):
        chosen = random.Random(122)
        for _ in range(3):
            small = [tuple([min(limit, 1) for limit in limits]) + (1,) for limits in BASE.limits]
            doors = with_a_third_clock(chosen, BASE).doors
            doors = [(room, tuple([(min(low, 1), high) for low, high in guards]), resets, goal)
                     for room, guards, resets, goal in doors]
            machine = Machine(3, tuple(small), tuple(doors))
            if is_tight(machine):
                self.same(every_nodes(machine), grown(machine))

    def test_edges(self):
        machine = Machine(1, ((0,),), ((0, ((0, 0),), (0,), 0),))
        self.same((every_nodes(machine), comes_with_every(machine, 0)), (((0, FIRST),), True))
        self.same(every_nodes(Machine(3, ((0, 0, 0),), ())), ((0, ((0, 0, 0), ((0, 1, 2),))),))

    def test_a_round_that_is_not_come_to(self):
        """The round of BASE at P is touched, but not come to exactly."""
        kind, nodes = plain_answer(BASE, 3)
        self.same((kind, (1, P) in nodes, (1, P) in every_nodes(BASE)), ("never", False, True))
        self.same([(1, cls) in nodes for cls in borders(P)].count(True) > 0, True)

    def test_margins_or_every_one(self):
        """Either for some m no run comes there, or for each m some run does; never both."""
        counts = {"every": 0, "margin": 0}
        for machine in TIGHT:
            for room in range(machine.rooms):
                answer = margin_answer(machine, room)
                counts[answer[0]] += 1
                self.same(is_margin_answer(machine, room, answer), True)
                if answer[0] == "every":
                    self.same((len(answer), chain_end(machine, answer[1])[0]), (2, room))
                    self.same([within_answer(machine, room, m)[0] for m in (1, 2, 5, 11)], ["come"] * 4)
                    self.same((least_margin(machine, room) if machine.clocks < 3 else None), None)
                else:
                    self.same((len(answer), answer[1]), (3, least_margin(machine, room)))
                    self.same(is_table(machine, room, answer[1], answer[2]), True)
                    self.same((comes_with_every(machine, room), chain_to(machine, room)), (False, None))
        self.assertGreater(min(counts.values()), 30)


class Chains(Case):
    def test_chains_that_are_told(self):
        rounds = 0
        for machine in TIGHT:
            for room in range(machine.rooms):
                chain = chain_to(machine, room)
                self.same(chain is not None, comes_with_every(machine, room))
                if chain is not None:
                    self.same((is_chain(machine, chain), chain_end(machine, chain)[0]), (True, room))
                    self.assertLessEqual(len(chain), 12000)
                    rounds += "round" in [link[0] for link in chain]
                    if room in rooms_come_to(machine):
                        # So a walk of it is as short as can be: what is come to exactly needs no round.
                        self.same([link for link in chain if link[0] == "round"], [])
        self.assertGreater(rounds, 10)

    def test_all_nodes_are_behind_chains(self):
        """Each link from a node come to with every margin leads to one."""
        for machine in (BASE, SPIN):
            lot = set(every_nodes(machine))
            for room in range(machine.rooms):
                chain = chain_to(machine, room)
                ends = [chain_end(machine, chain[:many]) for many in range(len(chain) + 1)]
                self.assertLessEqual(set(ends), lot)

    def test_judged_chains(self):
        right = [(), CHAIN, CHAIN[:1], CHAIN[:3], CHAIN[:4], CHAIN[:4] + (("round", P, MOVES, P),),
                 CHAIN[:3] + (LINK,) * 50, CHAIN[:3] + (("round", P, MOVES * 2, ZEROS),)]
        wrong = [list(CHAIN), CHAIN[1:], CHAIN[:3] + CHAIN[4:], (LINK,), CHAIN + (WAIT,) * 9, CHAIN[:3] + (("door", 0),),
                 CHAIN[:3] + (LINK[:3],), CHAIN[:3] + (LINK + (0,),), CHAIN[:3] + (list(LINK),), WAIT, ("round",), (LINK, WAIT)]
        wrong += [CHAIN[:3] + (("round",) + rest,) for rest in (
            (P, MOVES[:-1], ZEROS), (P, list(MOVES), ZEROS), (P, (), ZEROS), (P, MOVES, ((1, 1), ((0, 1),))),
            (P, MOVES, None), (P, MOVES, ((0, 0), ((0, True),))), (P, MOVES, ((0, False), ((0, 1),))), (P, MOVES, [ZEROS]),
            (((0, 0), ((True,), (0,))), MOVES, ZEROS), (None, MOVES, ZEROS), (ZEROS, MOVES, ZEROS),
            (((4, 0), ((0, 1),)), MOVES, ZEROS), (P, 0, ZEROS))]
        wrong += [CHAIN[:3] + (("Round", P, MOVES, ZEROS),), CHAIN[:3] + ((LINK,),), CHAIN[:2] + (("door", False),)]
        wrong += [CHAIN[:2] + (move,) for move in NO_MOVES] + [(move,) for move in NO_MOVES]
        self.judged(lambda value: is_chain(BASE, value), right, wrong)
        for value in wrong + list(EVERYTHING):
            self.same(is_chain(BASE, value), value == ())
            if value != ():
                self.refused(InvalidChain, chain_end, BASE, value)
        for value in right:
            self.assertIn(chain_end(BASE, value), every_nodes(BASE))

    def test_as_many_links_as_are_let(self):
        machine = Machine(1, ((0,),), ((0, ((0, 0),), (0,), 0),))
        self.same([is_chain(machine, (("door", 0),) * many) for many in (20000, 20001)], [True, False])
        link = ("round", FIRST, (("door", 0),), FIRST)
        self.same(chain_end(machine, (link,) * 20000), (0, FIRST))

    def test_chains_of_loose_machines(self):
        machine = Machine(2, LOOSE.limits, LOOSE.doors + ((1, ((0, 4), (0, 4)), (1,), 0),))
        node = first_of(machine)
        row = round_at(machine, node)
        self.same(is_chain(machine, (WAIT, WAIT, ("door", 0))), True)
        self.same(is_chain(machine, (("round", node[1], row, node[1]),)), True)
        # A row of moves that does not put back each clock is no round, though it leads back to its node.
        wide = Machine(2, ((4, 4),), ((0, ((0, 4), (0, 4)), (0,), 0),))
        self.same(moved_node(wide, (0, node[1]), ("door", 0)), (0, node[1]))
        self.same(is_chain(wide, (("round", node[1], (("door", 0),), node[1]),)), False)
        self.same(is_chain(wide, (("door", 0),)), True)

    def test_wrong_arguments(self):
        for call in (is_chain, chain_end):
            self.all_refused(InvalidMachine, lambda machine: call(machine, 0), NO_MACHINES)
        self.all_refused(InvalidChain, lambda chain: chain_end(BASE, chain), NO_TUPLES)


class Answers(Case):
    def test_judged_answers(self):
        none = Zone(2, 2, ((0, 0, 0),) * 3)
        table = ((none,), ())
        right = [("margin", 2, table), ("margin", 3, ((Zone(2, 3, none.told),), ())),
                 ("margin", 64, ((Zone(2, 64, none.told),), ()))]
        wrong = [("margin", m, table) for m in NO_INTEGERS + (0, 1, 3, 65, -1, LONG)]
        wrong += [("margin", 2), ("margin", table), ["margin", 2, table], ("Margin", 2, table), ("every", ()), ("every", None),
                  ("every", (("door", 0),)), ("margin", 2, ((none,), (none,))), ("margin", 1, ((Zone(2, 1, none.told),), ())),
                  ("margin", 2, ((), ())), ("every", 2, table), ("margin", 2, table, 0)]
        self.judged(lambda value: is_margin_answer(HOLDS, 1, value), right, wrong)
        self.judged(lambda value: is_margin_answer(BASE, 3, value), [("every", CHAIN)], [
            ("every", CHAIN[:-1]), ("every", list(CHAIN)), ("every", CHAIN, 0), ["every", CHAIN], ("every",), CHAIN,
            ("margin", CHAIN), ("margin", 1, CHAIN)] + right)
        self.judged(lambda value: is_margin_answer(BASE, 1, value), [("every", CHAIN[:3]), ("every", CHAIN[:4])], [
            ("every", CHAIN), ("every", ())])

    def test_answers_of_loose_machines_are_judged(self):
        chain = (WAIT, WAIT, ("door", 0))
        self.same([is_margin_answer(LOOSE, 1, ("every", chain)), is_margin_answer(LOOSE, 0, ("every", chain))], [True, False])
        machine = Machine(1, ((1,), (1,)), ((0, ((0, 4),), (), 0), (0, ((4, 4),), (), 1)))
        table = ((Zone(1, 1, ((0, 0), (2, 0))),), ())
        self.same(is_margin_answer(machine, 1, ("margin", 1, table)), True)

    def test_room_zero(self):
        for machine in TIGHT:
            self.same(margin_answer(machine, 0), ("every", ()))
            self.same(chain_to(machine, 0), ())

    def test_the_least_m_can_be_too_great(self):
        """A margin that is told is at most 64: with more doors in a row it would be greater."""
        rows = []
        for many, wanted in ((1, 4), (4, 7)):
            doors = [(room, ((0, 0), (0, 4)), (0,), room + 1) for room in range(many)]
            machine = Machine(2, ((0, 4),) * 6, tuple(doors) + ((many, ((0, 0), (1, 4)), (0,), 5),))
            self.same(margin_answer(machine, 5)[:2], ("margin", wanted))
            rows.append(machine)
        for machine, most in zip(rows, (3, 6)):
            with limited("MOST_M", most):
                self.refused(TooMany, margin_answer, machine, 5, limit=most)

    def test_a_walk_that_would_keep_too_much(self):
        kept = len(within_answer(HOLDS, 1, 2)[1][0])
        self.same(kept, 1)
        with limited("MOST_ZONES", 1):
            self.refused(TooMany, margin_answer, HOLDS, 1, limit=1)
        with limited("MOST_ZONES", 2):
            self.same(margin_answer(HOLDS, 1)[:2], ("margin", 2))

    def test_what_is_not_come_to_exactly_can_have_no_margin(self):
        self.same((rooms_come_to(BASE), least_margin(BASE, 3)), ((0, 1, 2), None))
        self.same(needed(BASE, within_answer(BASE, 3, 64)[1]), (1, 64))

    def test_a_machine_each_of_whose_doors_puts_a_clock_back_can_be_loose(self):
        with self.assertRaises(Refused):
            every_nodes(HALF)

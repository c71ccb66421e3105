"""Stage 19: the judge, against what the other modules tell, and against papers that are changed place by place."""
import random
from fractions import Fraction

from anymargin import errors
from anymargin.base.graphs import knots
from anymargin.clock.classes import borders
from anymargin.come.every import chain_to, comes_with_every, every_nodes, is_margin_answer, margin_answer
from anymargin.come.plain import class_graph, is_plain_answer, plain_answer
from anymargin.come.within import is_table, least_margin, within_answer
from anymargin.errors import InvalidClaim
from anymargin.judge import judge as module
from anymargin.judge.judge import is_claim, opposite, takes
from anymargin.machine.machines import Machine, falls, is_falls, is_loose, loose_round
from anymargin.machine.runs import is_run, needed, room_behind
from anymargin.real.logs import explain_answer, explains, is_barring, log_of
from anymargin.zone.zones import Zone
from tests.support import (
    BASE, EVERYTHING, HOLDS, LONG, MACHINE, MOST, NO_FRACTIONS, NO_INTEGERS, NO_TUPLES, Case, is_tight, pair,
    random_machine, random_run)
from tests.test_every import LOOSE, SPIN, TIGHT
from tests.test_every_value import changed
from tests.test_logs import NO_LOGS
from tests.test_logs import LOG, M

EXAMPLES = """
>>> M, NONE = (1, ((2,), (2,)), ((0, ((3, 4),), (0,), 1),)), ((0, 0), (0, 0))
>>> [takes(("tight", M), ((1, 0),)), takes(("come within", M, 1, 1), (((2, 1), 0),)), takes(("never within", M, 1, 3), ((NONE,), ())), takes(("never within", M, 1, 1), ((NONE,), ()))]
[True, True, True, False]
>>> [takes(("margin", M, 1, 3), (((NONE,), ()), (((5, 2), 0),))), takes(("margin", M, 1, 2), (((NONE,), ()), (((3, 1), 0),)))]
[True, False]
>>> LOT = ((0, ((0,), ((), (0,)))), (0, ((0,), ((0,),))), (0, ((1,), ((), (0,)))), (0, ((1,), ((0,),))), (0, ((2,), ((0,),))))
>>> [takes(("never exactly", M, 1), LOT), takes(("not every", M, 1), (LOT, (8, 9, 6, 7, 5, 3, 4, 1, 2, 0))), takes(("not every", M, 1), (LOT[1:], (0,) * 10))]
[True, True, False]
>>> [opposite(("come within", M, 1, 3)) == ("never within", M, 1, 3), opposite(("margin", M, 1, 2)), takes(5, 5)]
[True, None, False]
"""

KINDS = ("tight", "loose", "come exactly", "never exactly", "come within", "never within", "margin", "every", "not every",
         "explained", "barred")
PAIRS = (KINDS[0:2], KINDS[2:4], KINDS[4:6], KINDS[7:9], KINDS[9:11])
PLAIN = (1, ((2,), (2,)), ((0, ((3, 4),), (0,), 1),))
NONE = ((0, 0), (0, 0))


def plain(machine):
    return (machine.clocks, machine.limits, machine.doors)


def told_table(table):
    return tuple([tuple([zone.told for zone in row]) for row in table])


def falling(machine):
    """Integers for all nodes that fall along each move but for those that lead on round."""
    nodes, graph = class_graph(machine)
    place = {node: at for at, lot in enumerate(knots(graph)) for node in lot}
    heights = [0] * len(nodes)
    while True:
        more = [max([heights[at]] + [heights[far] + (place.get(far, -1) != place.get(at, -2)) for far in row])
                for at, row in enumerate(graph)]
        if more == heights:
            return tuple(heights)
        heights = more


def seen_from(machine):
    """All nodes, the places of those behind the moves of each one, and the places of the borders of each one."""
    nodes, graph = class_graph(machine)
    places = {node: place for place, node in enumerate(nodes)}
    return nodes, graph, [[places[(room, border)] for border in borders(cls)] for room, cls in nodes]


def is_lot_with_falls(seen, clocks, room, paper):
    """The words of the document, node by node."""
    lot, heights = paper
    nodes, graph, by = seen
    members = set(lot)
    held = [node in members for node in nodes]
    right = list(lot) == sorted(members) and held[nodes.index((0, ((0,) * clocks, (tuple(range(clocks)),))))]
    right = right and not [1 for node in lot if node[0] == room] and len(heights) == len(nodes)
    for place in range(len(nodes)):
        inside = all([held[far] for far in graph[place]]) and all([held[far] for far in by[place]])
        right = right and (inside or not held[place])
        if right:
            touched = not held[place] and any([held[far] for far in by[place]])
            right = all([heights[far] < heights[place] + (not touched) for far in graph[place]])
    return right


def claims_of(machine, room, m):
    """All claims about a room, with a paper for each one that is true."""
    told = plain(machine)
    found = [("come exactly", told, room), ("never exactly", told, room), ("come within", told, room, m),
             ("never within", told, room, m), ("tight", told), ("loose", told)]
    if is_tight(machine):
        found += [("every", told, room), ("not every", told, room), ("margin", told, room, m)]
    return found


def paper_for(claim):
    """A paper for a claim, None if it is not true; made by the other modules."""
    machine = Machine(*claim[1])
    kind, given = claim[0], claim[2:]
    if kind in ("tight", "loose"):
        return falls(machine) if kind == "tight" else loose_round(machine)
    if kind in ("come exactly", "never exactly"):
        word, value = plain_answer(machine, given[0])
        return value if word == kind.split(" ")[0] else None
    if kind in ("come within", "never within"):
        word, value = within_answer(machine, given[0], given[1])
        if word != kind.split(" ")[0]:
            return None
        return value if word == "come" else told_table(value)
    if kind == "margin":
        if least_margin(machine, given[0]) != given[1]:
            return None
        table = told_table(within_answer(machine, given[0], given[1])[1])
        return (table, None if given[1] == 1 else within_answer(machine, given[0], given[1] - 1)[1])
    if kind in ("every", "not every"):
        chain = chain_to(machine, given[0])
        if kind == "every":
            return chain
        return (every_nodes(machine), falling(machine)) if chain is None else None
    word, value = explain_answer(machine, given[0], given[1])
    return value if (word == "run") == (kind == "explained") else None


def cases(seed, many):
    chosen = random.Random(seed)
    found = [HOLDS, BASE, SPIN, MACHINE, LOOSE, Machine(1, ((0,),), ())] + [machine for machine in TIGHT if machine.clocks < 3][:25]
    while len(found) < many:
        found.append(random_machine(chosen, chosen.choice((1, 1, 2)), chosen.choice((1, 2, 3)), chosen.choice((2, 4, 6))))
    return found


CASES = cases(190, 60)


class Judge(Case):
    def test_examples(self):
        self.examples(EXAMPLES, dict(vars(module)), vars(errors))

    def test_just_one_of_two_opposites_has_a_paper(self):
        counts = {}
        chosen = random.Random(191)
        for machine in CASES:
            room = chosen.randrange(machine.rooms)
            for m in (1, 2, 3, chosen.choice((4, 5, 64))):
                for claim in claims_of(machine, room, m):
                    self.same(is_claim(claim), True)
                    paper = paper_for(claim)
                    if paper is not None:
                        counts[claim[0]] = counts.get(claim[0], 0) + 1
                        self.same(takes(claim, paper), True)
                    other = opposite(claim)
                    if claim[0] == "margin":
                        self.same(other, None)
                        continue
                    self.same((opposite(other), other[1:]), (claim, claim[1:]))
                    self.assertIn((claim[0], other[0]), PAIRS + tuple([row[::-1] for row in PAIRS]))
                    self.same((paper_for(other) is None, takes(other, paper)), (paper is not None, False))
        self.assertEqual(set(counts), set(KINDS[:9]))
        self.assertGreater(min(counts.values()), 5)

    def test_logs(self):
        chosen = random.Random(192)
        counts = {"explained": 0, "barred": 0}
        for machine in CASES:
            run = random_run(chosen, machine, 5)
            log = log_of(machine, run, chosen.choice(((0, 1), (1, 2))))
            for margin in (pair(Fraction(*needed(machine, run)) / 2), needed(machine, run)):
                claim = ("explained", plain(machine), log, margin)
                paper = paper_for(claim)
                if paper is None:
                    claim = opposite(claim)
                    paper = paper_for(claim)
                counts[claim[0]] += 1
                self.same((takes(claim, paper), takes(opposite(claim), paper), paper_for(opposite(claim))), (True, False, None))
        self.assertGreater(min(counts.values()), 15)

    def test_papers_that_are_changed(self):
        """What differs from a paper in one place is one just if the other modules say so."""
        judged = {
            "tight": lambda machine, given, value: is_falls(machine, value),
            "loose": lambda machine, given, value: is_loose(machine, value),
            "come exactly": lambda machine, given, value: is_plain_answer(machine, given[0], ("come", value)),
            "never exactly": lambda machine, given, value: is_plain_answer(machine, given[0], ("never", value)),
            "come within": lambda machine, given, value: is_run(machine, value) and room_behind(machine, value) == given[0]
            and Fraction(*needed(machine, value)) <= Fraction(1, given[1]),
            "every": lambda machine, given, value: is_margin_answer(machine, given[0], ("every", value)),
            "explained": lambda machine, given, value: explains(machine, given[0], given[1], value),
            "barred": lambda machine, given, value: is_barring(machine, given[0], given[1], value)}
        chosen = random.Random(193)
        counts = {True: 0, False: 0}
        for machine in CASES[:24]:
            run = random_run(chosen, machine, 3)
            told, log = plain(machine), log_of(machine, run, (1, 2))
            claims = claims_of(machine, chosen.randrange(machine.rooms), chosen.choice((1, 2)))
            claims += [(kind, told, log, margin) for kind in KINDS[9:] for margin in ((0, 1), (1, 3))]
            for claim in claims:
                paper = paper_for(claim)
                if claim[0] not in judged or paper is None:
                    continue
                others = changed(paper)
                for value in chosen.sample(others, min(len(others), 60)):
                    wanted = judged[claim[0]](machine, claim[2:], value)
                    self.same(takes(claim, value), wanted)
                    counts[wanted] += 1
        self.assertGreater(min(counts.values()), 100)

    def test_tables_that_are_changed(self):
        chosen = random.Random(194)
        right = 0
        for machine in CASES[:30]:
            for room in range(1, machine.rooms):
                for m in (1, 2):
                    claim = ("never within", plain(machine), room, m)
                    paper = paper_for(claim)
                    if paper is None:
                        continue
                    others = changed(paper) + [paper]
                    for value in chosen.sample(others, min(len(others), 25)):
                        try:
                            table = tuple([tuple([Zone(machine.clocks, m, told) for told in row]) for row in value])
                            wanted = isinstance(value, tuple) and all([isinstance(row, tuple) for row in value]) and is_table(
                                machine, room, m, table)
                        except (errors.MarginError, TypeError):
                            wanted = False
                        self.same(takes(claim, value), wanted)
                        right += wanted
        self.assertGreater(right, 20)
        # Bounds need not be told in the closed form.
        claim = ("never within", plain(HOLDS), 1, 2)
        wide = ((0, None, 5), (0, None, 0), (0, None, None))
        self.same([takes(claim, ((row,), ())) for row in (wide, ((0, 0, 0),) * 3, ((0, 0, 0),) * 2, Zone(2, 2, ((0, 0, 0),) * 3))],
                  [True, True, False, False])

    def test_least_margins(self):
        machine = plain(HOLDS)
        none, run = ((0, 0, 0),) * 3, within_answer(HOLDS, 1, 1)[1]
        right = [(((none,), ()), run)]
        wrong = [((none,), ()), (((none,), ()), None), (((none,), ()), ()), (((none,), ()), run[:-1]), (((), ()), run),
                 (((none,), ()), run, 0), [((none,), ()), run], (((none,), (none,)), run)]
        self.judged(lambda value: takes(("margin", machine, 1, 2), value), right, wrong)
        self.judged(lambda value: takes(("margin", machine, 1, 3), value), [], right + wrong)
        alone = (1, ((2,), (1,)), ())
        self.judged(lambda value: takes(("margin", alone, 1, 1), value), [((((  (0, 0), (2, 0)),), ()), None)],
                    [((((  (0, 0), (2, 0)),), ()), ())])
        self.judged(lambda value: takes(("margin", alone, 1, 2), value), [], [((((  (0, 0), (2, 0)),), ()), None)])

    def test_lots_with_falls(self):
        chosen = random.Random(195)
        counts = {True: 0, False: 0}
        for machine in [machine for machine in CASES if is_tight(machine) and machine.clocks < 3]:
            seen, lot, heights = seen_from(machine), every_nodes(machine), falling(machine)
            for room in range(machine.rooms):
                if comes_with_every(machine, room) and chosen.randrange(3):
                    continue
                claim = ("not every", plain(machine), room)
                others = [(lot, heights), (lot[:-1], heights), (lot[1:], heights), (lot[::-1], heights), (lot, heights[:-1]),
                          (lot, heights + (0,)), (lot, (0,) * len(heights)), (lot, tuple([3 * height - 7 for height in heights]))]
                nodes = seen[0]
                for _ in range(12):
                    at = chosen.randrange(len(heights))
                    by = chosen.choice((-2, -1, 1, 2))
                    others.append((lot, heights[:at] + (heights[at] + by,) + heights[at + 1:]))
                    node = chosen.choice(nodes)
                    more = set(lot) ^ {node}
                    others.append((tuple(sorted(more)), heights))
                others.append((tuple([node for node in nodes if node[0] != room]), heights))
                for value in others:
                    wanted = is_lot_with_falls(seen, machine.clocks, room, value)
                    self.same(takes(claim, value), wanted)
                    counts[wanted] += 1
                    if wanted:
                        self.same(comes_with_every(machine, room), False)
        self.assertGreater(min(counts.values()), 80)

    def test_falls_of_wrong_forms(self):
        claim = ("not every", PLAIN, 1)
        lot, heights = every_nodes(Machine(*PLAIN)), falling(Machine(*PLAIN))
        high = tuple([height + MOST - 20 for height in heights])
        wrong = [(lot, list(heights)), (list(lot), heights), [lot, heights], (lot,), (lot, heights, 0), (lot, None), (None, heights),
                 (lot, heights[:-1] + (True,)), (lot, heights[:-1] + (None,)), (lot, heights[:-1] + ("0",)),
                 (lot, (LONG,) + heights[1:]), (lot[:-1] + ((0, ((2,), ((False,),))),), heights), (lot + (None,), heights),
                 (lot + ((0, 0),), heights), (lot + lot[-1:], heights)]
        self.judged(lambda value: takes(claim, value), [(lot, heights), (lot, high)], wrong)
        # A node that is touched must not be on a round: along it all integers would be equal.
        nodes = class_graph(BASE)[0]
        exact = tuple(sorted(plain_answer(BASE, 3)[1]))
        grown = tuple(sorted({(room, border) for room, cls in exact for border in borders(cls)}))
        self.same([takes(("not every", plain(BASE), 3), (value, falling(BASE))) for value in (exact, grown)], [False, False])
        self.same((takes(("never exactly", plain(BASE), 3), exact), len(nodes) == len(falling(BASE))), (True, True))

    def test_three_clocks(self):
        machine = Machine(3, ((1, 1, 1), (1, 1, 1)), ((0, ((1, 1), (0, 4), (0, 4)), (0, 1, 2), 0), (0, ((0, 0), (1, 1), (0, 4)), (), 1)))
        for claim in claims_of(machine, 1, 2):
            paper = paper_for(claim)
            self.same(takes(claim, paper), paper is not None)


class Claims(Case):
    def test_is_claim(self):
        right = [("tight", PLAIN), ("loose", PLAIN), ("come exactly", PLAIN, 1), ("never exactly", PLAIN, 0),
                 ("come within", PLAIN, 1, 64), ("never within", PLAIN, 0, 1), ("margin", PLAIN, 0, 7), ("every", PLAIN, 1),
                 ("not every", PLAIN, 0), ("explained", plain(M), LOG, (0, 1)), ("barred", plain(M), (), (MOST, 1)),
                 ("loose", plain(LOOSE)), ("tight", plain(LOOSE)), ("come exactly", plain(LOOSE), 0), ("come within", plain(LOOSE), 0, 3)]
        wrong = [(kind,) for kind in KINDS] + [(kind, PLAIN) for kind in KINDS[2:]] + [(kind, PLAIN, 0, 1, 0) for kind in KINDS]
        wrong += [(kind, PLAIN, 0) for kind in KINDS[:2]] + [("Tight", PLAIN), ("", PLAIN), (None, PLAIN), (["tight"], PLAIN), (PLAIN,)]
        wrong += [(kind, plain(LOOSE), 0) for kind in ("every", "not every")] + [("margin", plain(LOOSE), 0, 1)]
        wrong += [("tight", Machine(*PLAIN)), ("tight", PLAIN[:2]), ("tight", PLAIN + (0,)), ("tight", list(PLAIN)), ["tight", PLAIN],
                  ("tight", (1, ((2,), (5,)), ())), ("tight", (True, ((2,),), ())), ("tight", (1, ((2,),), ((0, ((0, 4),), (), 1),)))]
        for room in NO_INTEGERS + (2, -1):
            wrong += [("come exactly", PLAIN, room), ("every", PLAIN, room), ("margin", PLAIN, room, 1)]
        for m in NO_INTEGERS + (0, 65):
            wrong += [("come within", PLAIN, 1, m), ("margin", PLAIN, 1, m)]
        wrong += [("explained", plain(M), log, (0, 1)) for log in NO_LOGS]
        wrong += [("barred", plain(M), LOG, margin) for margin in NO_FRACTIONS + ((-1, 2),)]
        self.judged(is_claim, right, wrong)
        for value in wrong + list(EVERYTHING):
            self.refused(InvalidClaim, opposite, value)
            self.same(takes(value, ()), False)

    def test_every_two_values(self):
        claims = [claim for machine in (Machine(*PLAIN), HOLDS, LOOSE) for claim in claims_of(machine, 1, 2)]
        claims += [("explained", plain(M), LOG, (0, 1)), ("barred", plain(M), LOG, (0, 1))]
        for claim in claims:
            for value in EVERYTHING + tuple(changed(paper_for(claim) or ())):
                self.assertIn(takes(claim, value), (True, False))
        for value in EVERYTHING:
            for paper in EVERYTHING[::7]:
                self.same(takes(value, paper), False)

    def test_claims_with_changed_members(self):
        for claim in claims_of(HOLDS, 1, 2)[:7] + [("explained", plain(M), LOG, (1, 2))]:
            for value in changed(claim):
                self.assertIn(is_claim(value), (True, False))
                self.assertIn(takes(value, ()), (True, False))

    def test_sixty_digits_are_enough(self):
        log = ((0, (MOST - 1, MOST), (MOST - 1, MOST)),)
        claim = ("explained", plain(M), log, (1, MOST))
        self.same((paper_for(claim), takes(claim, paper_for(claim))), ((((MOST - 1, MOST), 0),), True))
        self.same(paper_for(opposite(claim)), None)
        claim = ("barred", plain(M), log, (0, 1))
        self.same(takes(claim, paper_for(claim)), True)

    def test_what_is_not_come_to_exactly(self):
        """A room that is never come to exactly can be come to with every margin, or not."""
        for machine, room, wanted in ((BASE, 3, "every"), (HOLDS, 1, "not every")):
            self.same(paper_for(("come exactly", plain(machine), room)), None)
            claim = (wanted, plain(machine), room)
            self.same(takes(claim, paper_for(claim)), True)
            answer = margin_answer(machine, room)
            self.same(answer[0] == "every", wanted == "every")

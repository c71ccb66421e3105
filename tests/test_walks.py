"""Stage 13: walks of chains, against corners that are led on one by one, and doors that are matched as words."""
import random
import re
from fractions import Fraction
from math import lcm

from anymargin import errors
from anymargin.clock.classes import borders
from anymargin.clock.corners import corner_moves, corners, moved
from anymargin.come import walks as module
from anymargin.come.every import chain_end, chain_to, is_chain, margin_answer, round_at
from anymargin.come.plain import moved_node, rooms_come_to
from anymargin.come.walks import (
    doors_needed, greatest_m, is_walk, returns, rounds_needed, walk_for)
from anymargin.errors import InvalidChain, InvalidMachine, InvalidNumber, TooMany
from anymargin.machine.machines import Machine
from anymargin.machine.runs import goes, is_run, needed, room_behind
from tests.support import BASE, EVERYTHING, HOLDS, LONG, MOST, NO_INTEGERS, Case, pair
from tests.test_every import CHAIN, FIRST, LINK, LOOSE, MOVES, P, SPIN, TIGHT, first_of
from tests.test_runs import NO_MACHINES

EXAMPLES = """
>>> FIRST, SPIN = ((0,), ((0,),)), Machine(1, ((1,), (1,)), ((0, ((1, 1),), (0,), 0), (0, ((0, 0),), (), 1)))
>>> CHAIN = (("round", FIRST, (("wait",), ("wait",), ("door", 0)), FIRST), ("door", 1))
>>> [returns(SPIN, CHAIN), rounds_needed(SPIN, CHAIN, 7), doors_needed(SPIN, CHAIN, 7), greatest_m(SPIN, CHAIN), greatest_m(SPIN, CHAIN[1:])]
[((0, 1),), (7,), 8, 19999, None]
>>> ROWS = (((1, 1), 0), ((0, 1), 1)), (((0, 1), 1),), (((6, 7), 0), ((1, 1), 0), ((1, 7), 1))
>>> [[is_walk(SPIN, CHAIN, m, row) for row in ROWS] for m in (7, 8)]
[[True, False, True], [True, False, False]]
>>> [is_walk(SPIN, CHAIN, 3, walk_for(SPIN, CHAIN, 3)), is_walk(SPIN, CHAIN[1:], 3, walk_for(SPIN, CHAIN[1:], 3))]
[True, True]
>>> walk_for(SPIN, CHAIN, 20000)
raises TooMany(20000)
"""

WAIT = ("wait",)
ROUND = ("round", FIRST, (WAIT, WAIT, ("door", 0)), FIRST)
SPUN = (ROUND, ("door", 1))

# A machine with rounds in which two of the corners change places, as others come back at once.
TURNS = Machine(3, ((4, 2, 1),), (
    (0, ((1, 1), (2, 4), (0, 1)), (0,), 0), (0, ((1, 2), (1, 4), (0, 4)), (1,), 0), (0, ((0, 4), (2, 2), (1, 4)), (0, 1), 0),
    (0, ((0, 2), (0, 4), (0, 4)), (2,), 0), (0, ((0, 4), (0, 4), (0, 4)), (0,), 0), (0, ((0, 4), (2, 2), (2, 4)), (1,), 0)))


def way_to(machine, room, classes):
    """Moves to one of these classes in a room, with exact steps; None if there are none."""
    moves = [WAIT] + [("door", index) for index in range(len(machine.doors))]
    rows, seen = [((), first_of(machine))], {first_of(machine)}
    for row, node in rows:
        if node[0] == room and node[1] in classes:
            return row
        for move in moves:
            behind = moved_node(machine, node, move)
            if behind is not None and behind not in seen:
                seen.add(behind)
                rows.append((row + (move,), behind))
    return None


def chains_of(machine, chosen, many):
    """Chains that go to a round in the closure of which they come exactly, to a border of it, and some moves on."""
    moves = [WAIT] + [("door", index) for index in range(len(machine.doors))]
    node, nodes = first_of(machine), []
    for _ in range(60):
        nexts = [behind for behind in [moved_node(machine, node, move) for move in moves] if behind is not None]
        if not nexts:
            break
        node = chosen.choice(nexts)
        nodes.append(node)
    found = []
    for room, cls in chosen.sample(nodes, min(many, len(nodes))):
        row = round_at(machine, (room, cls))
        if row is not None:
            chain = way_to(machine, room, borders(cls))
            for _ in range(chosen.choice((1, 1, 2))):
                chain += (("round", cls, row, chosen.choice(borders(cls))),)
            for _ in range(chosen.randrange(5)):
                nexts = [move for move in moves if is_chain(machine, chain + (move,))]
                chain += (chosen.choice(nexts),) if nexts else ()
            found.append(chain)
    return found


def all_chains():
    """Pairs of a machine and a chain, many of them with rounds, also of loose machines."""
    chosen = random.Random(130)
    found = [(SPIN, SPUN), (BASE, CHAIN), (BASE, CHAIN[:4]), (BASE, CHAIN[:3] + (LINK,) * 3), (BASE, ()), (HOLDS, ())]
    for machine in TIGHT:
        for room in set(range(machine.rooms)) - set(rooms_come_to(machine)):
            chain = chain_to(machine, room)
            found.extend([(machine, chain)] if chain is not None else [])
    for machine in [TURNS] * 12 + [BASE, SPIN] + TIGHT[::9]:
        found.extend([(machine, chain) for chain in chains_of(machine, chosen, 3)])
    node = (0, ((1, 0, 0), ((), (2,), (1,), (0,))))
    for goal in borders(node[1]):
        chain = way_to(TURNS, 0, borders(node[1])) + (("round", node[1], round_at(TURNS, node), goal),)
        found.append((TURNS, chain))
    return found


CHAINS = all_chains()


def rounds_of(chain):
    return [link for link in chain if link[0] == "round"]


def doors_of(row):
    return [move[1] for move in row if move[0] == "door"]


def return_of(machine, link):
    """The pair (g, K), by sets of corners that are led on move by move."""
    word, cls, row, goal = link
    count = len(corners(cls))
    goals = []
    for corner in range(count):
        here, led = cls, {corner}
        for move in row:
            change = WAIT if move == WAIT else ("door", machine.doors[move[1]][2])
            pairs = corner_moves(here, change)
            led = {goal for place in led for goal, wait in pairs[place]}
            here = moved(here, change)
        goals.append(led)
    common = 1
    for corner in range(count):
        led = {corner}
        for many in range(1, count + 1):
            led = set().union(*[goals[place] for place in led])
            if corner in led:
                common = lcm(common, many)
                break
    return (len(cls[1]) - 1, common)


def pattern(machine, chain, m):
    """A pattern for the doors of walks: each door is a letter."""
    text = ""
    for link in chain:
        if link[0] == "door":
            text += chr(97 + link[1])
        elif link[0] == "round":
            g, many = return_of(machine, link)
            word = "".join([chr(97 + door) for door in doors_of(link[2])])
            text += f"(?:{word}){{1,{2 * g + m * many}}}"
    return re.compile(text)


class Numbers(Case):
    def test_examples(self):
        self.examples(EXAMPLES, dict(vars(module), Machine=Machine), vars(errors))

    def test_returns(self):
        kinds = set()
        for machine, chain in CHAINS:
            wanted = tuple([return_of(machine, link) for link in rounds_of(chain)])
            self.same(returns(machine, chain), wanted)
            kinds |= set(wanted)
            for g, many in wanted:
                self.assertLessEqual(many, 12)
        self.assertLessEqual({(0, 1), (1, 1), (2, 1), (3, 2)}, kinds)
        self.same(returns(BASE, CHAIN[:3]), ())

    def test_rounds_and_doors(self):
        for machine, chain in CHAINS:
            pairs = [return_of(machine, link) for link in rounds_of(chain)]
            for m in (1, 2, 9, 64, 65, 10 ** 40, MOST):
                wanted = tuple([2 * g + m * many for g, many in pairs])
                self.same(rounds_needed(machine, chain, m), wanted)
                total = len(doors_of(chain)) + sum([
                    many * len(doors_of(link[2])) for many, link in zip(wanted, rounds_of(chain))])
                self.same(doors_needed(machine, chain, m), total)

    def test_the_greatest_m(self):
        for machine, chain in CHAINS:
            found = greatest_m(machine, chain)
            if not rounds_of(chain):
                self.same(found, None)
                self.assertLessEqual(doors_needed(machine, chain, MOST), 20000)
            else:
                self.assertGreater(doors_needed(machine, chain, found + 1), 20000)
                self.assertTrue(found == 0 or doors_needed(machine, chain, found) <= 20000)
        self.same(greatest_m(SPIN, (ROUND,) * 9000), 2)
        self.same(greatest_m(SPIN, (ROUND,) * 10000), 2)
        self.same(greatest_m(SPIN, (ROUND,) * 10001), 1)
        self.same(greatest_m(SPIN, (ROUND,) * 20000), 1)
        wide = Machine(1, ((0,),), ((0, ((0, 0),), (0,), 0),))
        long = ("round", FIRST, (("door", 0),) * 2, FIRST)
        self.same([greatest_m(wide, (long,) * many) for many in (9999, 10000, 10001)], [1, 1, 0])
        self.same([doors_needed(wide, (long,) * many, 1) for many in (10000, 10001)], [20000, 20002])

    def test_wrong_arguments(self):
        wrong = EVERYTHING + (CHAIN[1:], list(CHAIN), CHAIN[:3] + (LINK[:3],), (LINK,))
        wrong = tuple([value for value in wrong if value != ()])
        for call in (lambda machine, chain: rounds_needed(machine, chain, 0), returns, greatest_m,
                     lambda machine, chain: doors_needed(machine, chain, 0),
                     lambda machine, chain: walk_for(machine, chain, 0),
                     lambda machine, chain: is_walk(machine, chain, 0, 0)):
            self.all_refused(InvalidMachine, lambda machine: call(machine, 0), NO_MACHINES)
            self.all_refused(InvalidChain, lambda chain: call(BASE, chain), wrong)
        for call in (rounds_needed, doors_needed, walk_for, lambda machine, chain, m: is_walk(machine, chain, m, 0)):
            for chain in ((), CHAIN):
                self.all_refused(InvalidNumber, lambda m: call(BASE, chain, m), NO_INTEGERS + (0, -1), "given")
        self.same(rounds_needed(BASE, (), MOST), ())


class Walks(Case):
    def test_walks_for_each_m(self):
        """[0.14], [13.7]: from each chain a run within 1/m is made, for every m."""
        for machine, chain in CHAINS:
            for m in (1, 2, 3, 7, 64, 100):
                if doors_needed(machine, chain, m) > 20000:
                    self.refused(TooMany, walk_for, machine, chain, m, limit=20000)
                    continue
                run = walk_for(machine, chain, m)
                self.same((is_run(machine, run), goes(machine, run, (1, m))), (True, True))
                self.same(room_behind(machine, run), chain_end(machine, chain)[0])
                self.assertLessEqual(len(run), doors_needed(machine, chain, m))
                word = "".join([chr(97 + door) for wait, door in run])
                self.assertTrue(pattern(machine, chain, m).fullmatch(word))
                self.same(is_walk(machine, chain, m, run), True)
                if not rounds_of(chain):
                    self.same(needed(machine, run), (0, 1))

    def test_what_comes_with_every_margin_comes_further_than_exactly(self):
        for m in (1, 5, 64, 65, 1000):
            run = walk_for(BASE, CHAIN, m)
            self.same((room_behind(BASE, run), needed(BASE, run)), (3, (1, m)))
        chain = margin_answer(BASE, 3)[1]
        most = greatest_m(BASE, chain)
        self.same(is_walk(BASE, chain, most, walk_for(BASE, chain, most)), True)
        self.refused(TooMany, walk_for, BASE, chain, most + 1, limit=20000)
        self.refused(TooMany, walk_for, BASE, chain, MOST, limit=20000)

    def test_no_doors(self):
        for machine in (BASE, HOLDS, SPIN):
            for chain in ((), (WAIT,)):
                for m in (1, MOST):
                    self.same(walk_for(machine, chain, m), ())
                    self.same(is_walk(machine, chain, m, ()), True)

    def test_the_most_doors(self):
        run = walk_for(SPIN, SPUN, 19999)
        self.assertLessEqual(len(run), 20000)
        self.same(is_walk(SPIN, SPUN, 19999, run), True)
        # Though one round would do, as the corner is the same.
        self.refused(TooMany, walk_for, SPIN, SPUN, 20000, limit=20000)
        self.same(is_walk(SPIN, SPUN, 20000, (((1, 1), 0), ((0, 1), 1))), True)

    def test_loose_machines(self):
        node = first_of(LOOSE)
        machine = Machine(2, LOOSE.limits, LOOSE.doors + ((1, ((0, 4), (0, 4)), (1,), 0),))
        chain = (WAIT, ("round", node[1], round_at(machine, node), ((0, 0), ((0, 1),))))
        self.same(is_chain(machine, chain), False)
        for m in (1, 9):
            self.same(is_walk(machine, chain[1:], m, walk_for(machine, chain[1:], m)), True)


class Judged(Case):
    def test_doors_as_words(self):
        """Which rows of doors fit: all waits are let here, so nothing else counts."""
        doors = ((0, ((0, 4),), (0,), 0),) * 3
        machine = Machine(1, ((4,),), doors)
        chosen = random.Random(131)
        zero = ((0, 1), 0)
        counts = {True: 0, False: 0}
        for _ in range(300):
            chain = []
            for _ in range(chosen.randrange(5)):
                row = tuple([("door", chosen.randrange(3)) for _ in range(chosen.choice((1, 1, 2, 3)))])
                chain.append(chosen.choice((WAIT, ("door", chosen.randrange(3)), ("round", FIRST, row, FIRST),
                                            ("round", FIRST, row, FIRST))))
            # All readings are 0: a wait would lead to another class.
            chain = tuple([link for link in chain if link != WAIT])
            m = chosen.choice((1, 2, 3))
            fits = pattern(machine, chain, m)
            for _ in range(6):
                word = []
                for link in chain:
                    row = doors_of(link[2]) if link[0] == "round" else doors_of((link,))
                    word.extend(row * chosen.choice((1, 1, 2, 3, 4)) if link[0] == "round" else row)
                if chosen.randrange(3) == 0:
                    word.append(chosen.randrange(3))
                if word and chosen.randrange(3) == 0:
                    word[chosen.randrange(len(word))] = chosen.randrange(3)
                wanted = fits.fullmatch("".join([chr(97 + door) for door in word])) is not None
                self.same(is_walk(machine, chain, m, tuple([((0, 1), door) for door in word])), wanted)
                counts[wanted] += 1
        self.assertGreater(min(counts.values()), 200)
        self.same(is_walk(machine, (), 1, (zero,)), False)

    def test_each_round_has_its_own_number_of_times(self):
        machine = Machine(2, ((4, 4),), ((0, ((0, 4), (0, 4)), (0, 1), 0),) * 3)
        zeros, wide = ((0, 0), ((0, 1),)), ((0, 0), ((), (0, 1)))
        chain = (("round", wide, (WAIT, ("door", 0), WAIT), zeros), ("round", zeros, (("door", 1),), zeros),
                 ("round", wide, (WAIT, ("door", 2), WAIT), zeros))
        self.same(rounds_needed(machine, chain, 1), (3, 1, 3))
        for many in ((1, 1, 1), (3, 1, 3), (4, 1, 3), (3, 2, 3), (3, 1, 4), (1, 1, 3), (3, 0, 3), (0, 1, 1), (1, 1, 0)):
            run = tuple([((0, 1), door) for door, times in enumerate(many) for _ in range(times)])
            right = all([1 <= times <= most for times, most in zip(many, (3, 1, 3))])
            self.same(is_walk(machine, chain, 1, run), right)

    def test_a_walk_near_by(self):
        for machine, chain in CHAINS:
            if doors_needed(machine, chain, 4) > 300 or not chain:
                continue
            run = walk_for(machine, chain, 4)
            fits = pattern(machine, chain, 4)
            for other in (run[1:], run[:-1], run + run[-1:], run[:1] + run, run[:2] + run):
                right = is_run(machine, other) and goes(machine, other, (1, 4))
                word = "".join([chr(97 + door) for wait, door in other])
                self.same(is_walk(machine, chain, 4, other), right and fits.fullmatch(word) is not None)
            late = tuple([(pair(Fraction(*wait) + Fraction(1, 3)), door) for wait, door in run])
            self.same(is_walk(machine, chain, 4, late), goes(machine, late, (1, 4)))

    def test_a_margin_at_equality(self):
        run = (((6, 7), 0), ((1, 1), 0), ((1, 7), 1))
        self.same([is_walk(SPIN, SPUN, m, run) for m in (2, 6, 7, 8, MOST)], [True, True, True, False, False])
        # For a lesser m fewer rounds are let.
        self.same(is_walk(SPIN, SPUN, 1, run), False)
        self.same([is_walk(SPIN, SPUN, m, (((1, 1), 0),) * 3 + (((0, 1), 1),)) for m in (1, 2, 3)], [False, False, True])

    def test_judged_walks(self):
        right = [(((1, 1), 0), ((0, 1), 1)), (((1, 1), 0),) * 7 + (((0, 1), 1),), (((6, 7), 0), ((1, 1), 0), ((1, 7), 1))]
        wrong = [(), (((0, 1), 1),), (((1, 1), 0),), (((1, 1), 0),) * 8 + (((0, 1), 1),), [((1, 1), 0), ((0, 1), 1)],
                 (((True, 1), 0), ((0, 1), 1)), (((1, 1), False), ((0, 1), 1)), (((1, 1), 0), ((0, 1), True)),
                 (((1, 1), 0), ((0, 2), 1)), (((1, 1), 0), ((2, 7), 1)), (((1, 1), 0), ((0, 1), 2)),
                 (((1, 1), 0), ((0, 1), 1), ((0, 1), 1)), (((LONG, 1), 0), ((0, 1), 1))]
        self.judged(lambda value: is_walk(SPIN, SPUN, 7, value), right, wrong)

    def test_what_is_not_true(self):
        # A walk within 1/m is not always one within 1/(m + 1).
        run = walk_for(BASE, CHAIN, 5)
        self.same([is_walk(BASE, CHAIN, m, run) for m in (5, 6)], [True, False])
        # A chain without a round needs no margin.
        self.same(needed(BASE, walk_for(BASE, CHAIN[:3], 1)), (0, 1))
        self.same(MOVES == LINK[2] and P == LINK[1], True)

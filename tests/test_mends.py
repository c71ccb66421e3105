"""Stage 18: doors whose taking away gives a margin, against all lots that are tried one by one."""
import random
from itertools import combinations
from unittest import mock

from anymargin import errors
from anymargin.come import every, within
from anymargin.come.every import chain_end, chain_to, comes_with_every, is_chain, margin_answer
from anymargin.come.within import is_table, least_margin
from anymargin.errors import InvalidChain, InvalidMachine, InvalidNumber, InvalidOperation, Refused, TooMany
from anymargin.machine.machines import Machine, is_loose, without_doors
from anymargin.mend import mends as module
from anymargin.mend.mends import chain_doors, does_mend, is_mend_answer, least_mends, mend_answer
from anymargin.zone.zones import Zone
from tests.support import BASE, EVERYTHING, HOLDS, LONG, NO_INTEGERS, NO_TUPLES, Case, is_tight, random_machine
from tests.test_every import CHAIN, LOOSE, SPIN, TIGHT
from tests.test_runs import NO_MACHINES

EXAMPLES = """
>>> ONE = Machine(1, ((2,), (2,)), ((0, ((1, 2),), (0,), 1),))
>>> BOTH = Machine(1, ((2,), (2,)), ((0, ((1, 2),), (0,), 1), (0, ((0, 0),), (), 1)))
>>> [least_mends(ONE, 1), least_mends(BOTH, 1), least_mends(BOTH, 0), does_mend(BOTH, 1, (0,)), does_mend(BOTH, 1, (0, 1))]
[((0,),), ((0, 1),), (), False, True]
>>> [mend_answer(ONE, 1, 1)[:3], mend_answer(BOTH, 1, 1)[0], [lot for lot, chain in mend_answer(BOTH, 1, 1)[1]]]
[('mend', (0,), 1), 'none', [(0,), (1,)]]
>>> [chain_doors(ONE, (("wait",), ("wait",), ("door", 0))), is_mend_answer(BOTH, 0, 2, ("none", (((0, 1), ()),)))]
[(0,), True]
>>> mend_answer(ONE, 1, 3)
raises InvalidNumber(3)
"""

ONE = Machine(1, ((2,), (2,)), ((0, ((1, 2),), (0,), 1),))
BOTH = Machine(1, ((2,), (2,)), ((0, ((1, 2),), (0,), 1), (0, ((0, 0),), (), 1)))
WAIT = ("wait",)
NO_LOTS = NO_TUPLES + ((True,), (0, 0), (1, 0), (4,), (-1,), ("0",), ((0,),), (None,), (LONG,), (0, 4), (0, 1, 2, 3, 4))


def cases(seed, many):
    """Tight machines of one and two clocks, many of them with several ways to a room."""
    chosen = random.Random(seed)
    found = [machine for machine in TIGHT if machine.clocks < 3][:24]
    while len(found) < many:
        machine = random_machine(chosen, 1, 3, 7) if chosen.randrange(3) else random_machine(chosen, 2, 3, 5, [(0, 1), (0, 1), (0,)])
        limits = tuple([tuple([max(limit, 1) for limit in row]) for row in machine.limits])
        machine = Machine(machine.clocks, limits, machine.doors)
        if is_tight(machine):
            found.append(machine)
    return found


CASES = cases(180, 60)


def lots_of(machine, many):
    return list(combinations(range(len(machine.doors)), many))


def mending(machine, room, most=2):
    """All lots of at most so many doors that mend the room."""
    return [lot for many in range(most + 1) for lot in lots_of(machine, many)
            if not comes_with_every(without_doors(machine, lot), room)]


def doors_in(chain):
    doors = set()
    for link in chain:
        doors |= {move[1] for move in (link[2] if link[0] == "round" else (link,)) if move[0] == "door"}
    return tuple(sorted(doors))


class Lots(Case):
    def test_examples(self):
        self.examples(EXAMPLES, dict(vars(module), Machine=Machine), vars(errors))

    def test_least_lots(self):
        sizes = {}
        for machine in CASES:
            for room in range(machine.rooms):
                lots = mending(machine, room)
                least = [lot for lot in lots if not [1 for other in lots if set(other) < set(lot)]]
                self.same(least_mends(machine, room), tuple(sorted(least)))
                for lot in least:
                    sizes[len(lot)] = sizes.get(len(lot), 0) + 1
                # More mends.
                for lot in lots_of(machine, 2):
                    self.same(lot in lots, bool([1 for other in least if set(other) <= set(lot)]))
        self.assertGreater(min([sizes[many] for many in (0, 1, 2)]), 9)

    def test_does_mend(self):
        chosen = random.Random(181)
        for machine in CASES:
            doors = len(machine.doors)
            for room in range(machine.rooms):
                for many in range(doors + 1):
                    lot = tuple(sorted(chosen.sample(range(doors), many)))
                    wanted = not comes_with_every(without_doors(machine, lot), room)
                    self.same(does_mend(machine, room, lot), wanted)
                to = tuple([index for index, door in enumerate(machine.doors) if door[3] == room != door[0]])
                self.same(does_mend(machine, room, to), room != 0)
            self.same((least_mends(machine, 0), does_mend(machine, 0, tuple(range(doors)))), ((), False))

    def test_each_chain_is_cut(self):
        """A lot that mends has a door on each chain that ends in the room."""
        for machine in CASES:
            for room in range(machine.rooms):
                lots = mending(machine, room)
                chains = [chain_to(machine, room)]
                for many in (1, 2):
                    word, *rest = mend_answer(machine, room, many)
                    chains += [chain for lot, chain in rest[0]] if word == "none" else []
                for chain in chains:
                    if chain is not None:
                        self.same((is_chain(machine, chain), chain_end(machine, chain)[0]), (True, room))
                        for lot in lots:
                            self.assertTrue(set(lot) & set(chain_doors(machine, chain)), (lot, chain))
                        # Without more doors than those of the chain it is still one.
                        others = [door for door in range(len(machine.doors)) if door not in chain_doors(machine, chain)]
                        self.same(does_mend(machine, room, tuple(others)), False)

    def test_doors_of_chains(self):
        self.same([chain_doors(BASE, CHAIN), chain_doors(BASE, CHAIN[:3]), chain_doors(BASE, ()), chain_doors(BASE, CHAIN[:4])],
                  [(0, 1, 2, 3), (0,), (), (0, 1, 2)])
        for machine in CASES:
            for room in range(machine.rooms):
                chain = chain_to(machine, room)
                if chain is not None:
                    self.same(chain_doors(machine, chain), doors_in(chain))


class Answers(Case):
    def test_either_or(self):
        counts = {"mend": 0, "none": 0}
        for machine in CASES:
            for room in range(machine.rooms):
                for most in (0, 1, 2):
                    answer = mend_answer(machine, room, most)
                    counts[answer[0]] += 1
                    lots = mending(machine, room, most)
                    self.same((answer[0] == "mend", is_mend_answer(machine, room, most, answer)), (bool(lots), True))
                    if lots:
                        word, lot, m, table = answer
                        self.same(lot, lots[0])
                        left = without_doors(machine, lot)
                        self.same((m, is_table(left, room, m, table)), (least_margin(left, room), True))
                        self.assertEqual(answer[2:], margin_answer(left, room)[1:])
                        continue
                    self.same([lot for lot, chain in answer[1]], lots_of(machine, min(most, len(machine.doors))))
                    for lot, chain in answer[1]:
                        self.same((is_chain(machine, chain), chain_end(machine, chain)[0]), (True, room))
                        self.assertFalse(set(lot) & set(doors_in(chain)))
        self.assertGreater(min(counts.values()), 60)

    def test_small_machines(self):
        alone = Machine(1, ((2,), (1,)), ())
        self.same([mend_answer(alone, 0, most) for most in (0, 1, 2)], [("none", (((), ()),))] * 3)
        self.same([mend_answer(alone, 1, most)[:3] for most in (0, 1, 2)], [("mend", (), 1)] * 3)
        self.same([least_mends(alone, room) for room in (0, 1)], [(), ((),)])
        self.same([mend_answer(ONE, 0, most) for most in (0, 1, 2)],
                  [("none", (((), ()),)), ("none", (((0,), ()),)), ("none", (((0,), ()),))])
        self.same(does_mend(alone, 0, ()), False)

    def test_many_doors(self):
        """Twelve doors, of which each pair is tried."""
        doors = tuple([(0, ((at, at),), (0,), 1) for at in range(4)]) * 2 + tuple([(1, ((at, at),), (0,), 2) for at in range(4)])
        machine = Machine(1, ((4,),) * 3, doors)
        word, rows = mend_answer(machine, 2, 2)
        self.same((word, len(rows), is_mend_answer(machine, 2, 2, (word, rows))), ("none", 66, True))
        self.same(least_mends(machine, 2), ())
        two = Machine(1, ((4,),) * 3, doors[:10])
        self.same((least_mends(two, 2), mend_answer(two, 2, 2)[:2]), (((8, 9),), ("mend", (8, 9))))

    def test_answers_of_rounds(self):
        self.same(least_mends(BASE, 3), ((0,), (1,), (2,), (3,)))
        self.same(mend_answer(BASE, 3, 2)[:2], ("mend", (0,)))
        self.same(least_mends(SPIN, 1), ((1,),))

    def test_too_many(self):
        with mock.patch.object(within, "MOST_ZONES", 1):
            self.refused(TooMany, mend_answer, HOLDS, 1, 1, limit=1)
        with mock.patch.object(within, "MOST_M", 1), mock.patch.object(every, "MOST_M", 1):
            self.refused(TooMany, mend_answer, HOLDS, 1, 2, limit=1)
        self.same(mend_answer(HOLDS, 1, 2)[:3], ("mend", (), 2))

    def test_judged_answers(self):
        none = Zone(1, 1, ((0, 0), (3, 0)))
        table = ((none,), ())
        right = [("mend", (0,), 1, table), ("mend", (0,), 64, ((Zone(1, 64, ((0, 0), (0, 0))),), ()))]
        wrong = [("mend", (), 1, table), ("mend", (1,), 1, table), ("mend", (False,), 1, table), ("mend", [0], 1, table),
                 ("mend", (0,), 2, table), ("mend", (0,), 0, table), ("mend", (0,), 65, table), ("mend", (0,), True, table),
                 ("mend", (0,), 1, ((), ())), ("mend", (0,), 1, ((none,), (none,))), ("mend", (0,), 1), ("Mend", (0,), 1, table),
                 ["mend", (0,), 1, table], ("mend", (0, 0), 1, table), ("none", ()), ("none", (((0,), ()),)),
                 ("none", (((0,), (WAIT, WAIT, ("door", 0))),)), ("none", None)]
        self.judged(lambda value: is_mend_answer(ONE, 1, 1, value), right, wrong)
        self.judged(lambda value: is_mend_answer(ONE, 1, 0, value), [("none", (((), (WAIT, WAIT, ("door", 0))),))], right)
        one, other = (WAIT, WAIT, ("door", 0)), (("door", 1),)
        rows = (((0,), other), ((1,), one))
        wrong = [rows[::-1], rows[:1], rows + rows[:1], (((0,), one), ((1,), one)), (((False,), other), ((1,), one)),
                 (((0,), other), ((True,), one)), (([0], other), ((1,), one)), (((0,), other), ((1,), ())), list(rows),
                 (((0,), other, 0), ((1,), one)), (((0,), other), ((1,),)), (((), other), ((1,), one)), ((0, other), (1, one)),
                 (((0,), other), [(1,), one]), (((0,), other), ((1,), list(one))), (((0,), (("door", 0),)), ((1,), one))]
        self.judged(lambda value: is_mend_answer(BOTH, 1, 1, value), [("none", rows)], [("none", value) for value in wrong])
        # A lot need not be a least one; of a machine with a margin it can have doors, too.
        both = ("mend", (0, 1), 3, ((Zone(1, 3, ((0, 0), (0, 0))),), ()))
        self.judged(lambda value: is_mend_answer(BOTH, 1, 2, value), [both], [both[:3], ("none", rows)])
        self.judged(lambda value: is_mend_answer(BOTH, 1, 1, value), [("none", rows)], [both])
        wide = Zone(2, 2, ((0, 0, 0),) * 3)
        self.judged(lambda value: is_mend_answer(HOLDS, 1, 2, value),
                    [("mend", lot, 2, ((wide,), ())) for lot in ((), (0,), (1,), (0, 1))], [("mend", (0,), 2, ((), (wide,)))])

    def test_wrong_arguments(self):
        for call in (lambda *given: does_mend(*given, 0), least_mends, lambda *given: mend_answer(*given, 9),
                     lambda *given: is_mend_answer(*given, 9, 0)):
            self.all_refused(InvalidMachine, lambda machine: call(machine, "a"), NO_MACHINES)
            self.all_refused(InvalidNumber, lambda room: call(BASE, room), NO_INTEGERS + (4, -1), "given")
            self.refused(InvalidNumber, call, LOOSE, 2, given=2)
        self.all_refused(InvalidOperation, lambda lot: does_mend(BASE, 0, lot), NO_LOTS)
        for call in (mend_answer, lambda *given: is_mend_answer(*given, 0)):
            self.all_refused(InvalidNumber, lambda most: call(BASE, 1, most), NO_INTEGERS + (3, -1), "given")
            self.refused(InvalidNumber, call, LOOSE, 1, 3, given=3)
        self.all_refused(InvalidMachine, lambda machine: chain_doors(machine, 0), NO_MACHINES)
        wrong = tuple([value for value in EVERYTHING if value != ()]) + (CHAIN[1:], CHAIN + (WAIT,) * 9)
        self.all_refused(InvalidChain, lambda chain: chain_doors(BASE, chain), wrong)
        self.refused(InvalidOperation, does_mend, LOOSE, 1, (2,))
        self.refused(InvalidChain, chain_doors, LOOSE, (("door", 0),))

    def test_loose_machines_are_refused(self):
        for call in (lambda: does_mend(LOOSE, 1, ()), lambda: does_mend(LOOSE, 1, (0, 1)), lambda: least_mends(LOOSE, 0),
                     lambda: mend_answer(LOOSE, 1, 2), lambda: is_mend_answer(LOOSE, 1, 2, None),
                     lambda: chain_doors(LOOSE, ())):
            with self.assertRaises(Refused) as caught:
                call()
            word, doors, clock = caught.exception.reason
            self.same((word, is_loose(LOOSE, (doors, clock))), ("loose", True))

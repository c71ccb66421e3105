"""Stage 17: lesser machines, against lots that are tried one by one and deeds that are done word by word."""
import random
from itertools import product

from anymargin import errors
from anymargin.come.every import comes_with_every
from anymargin.come.plain import rooms_come_to
from anymargin.come.within import within_answer
from anymargin.errors import InvalidMachine, InvalidRun
from anymargin.less import lesser as module
from anymargin.less.lesser import alike, are_fair, came, covers, led_back, led_there, lesser, places
from anymargin.machine.machines import Machine, loose_round
from anymargin.machine.runs import is_run, needed, standings
from tests.support import EVERYTHING, HOLDS, BASE, MACHINE, NO_TUPLES, Case, is_tight, random_machine, random_run
from tests.test_runs import NO_MACHINES, NO_ROWS

EXAMPLES = """
>>> BOTH, BACK = ((1, 2), (0, 4)), ((0, 3), (0, 4))
>>> M = Machine(2, ((3, 4),) * 3, ((0, BOTH, (0, 1), 1), (0, BOTH, (0, 1), 2), (1, BACK, (0, 1), 0), (2, BACK, (0, 1), 0)))
>>> [covers(M), alike(M), places(M), are_fair(M, ((0,), (1,), (2,))), came(M)]
[((1, 0),), ((0,), (1, 2)), ((0, 1, 1), (0, None), (0, 0, 1, 1)), True, (0, 1, 2)]
>>> lesser(M) == Machine(1, ((3,), (3,)), ((0, ((1, 2),), (0,), 1), (1, ((0, 3),), (0,), 0)))
True
>>> [led_there(M, (((3, 2), 1), ((1, 1), 3))), led_back(M, (((3, 2), 0), ((1, 1), 1)))]
[(((3, 2), 0), ((1, 1), 1)), (((3, 2), 0), ((1, 1), 2))]
"""

BOTH, BACK = ((1, 2), (0, 4)), ((0, 3), (0, 4))
M = Machine(2, ((3, 4),) * 3, ((0, BOTH, (0, 1), 1), (0, BOTH, (0, 1), 2), (1, BACK, (0, 1), 0), (2, BACK, (0, 1), 0)))


def copied(chosen, machine):
    """The machine with some of its rooms twice, doors to both or to one of them, and doors from both."""
    rooms = list(range(machine.rooms))
    while len(rooms) < 6 and chosen.randrange(3):
        rooms.append(chosen.choice(rooms))
    doors = []
    for at, room in enumerate(rooms):
        for door in machine.doors:
            if door[0] == room:
                goals = [goal for goal in range(len(rooms)) if rooms[goal] == door[3]]
                for goal in goals if chosen.randrange(2) else [chosen.choice(goals)]:
                    doors.append((at, door[1], door[2], goal))
    chosen.shuffle(doors)
    return Machine(machine.clocks, tuple([machine.limits[room] for room in rooms]), tuple(doors[:12]))


def with_a_covered_clock(chosen, machine):
    """The machine with one more clock that is put back at least as often as another one, and nearly no bounds."""
    by = chosen.randrange(machine.clocks)
    at = chosen.randrange(machine.clocks + 1)
    wide = lambda row, more: row[:at] + (more,) + row[at:]
    doors = []
    for room, guards, resets, goal in machine.doors:
        more = ((at,) if by in resets or chosen.randrange(3) == 0 else ())
        resets = tuple(sorted([clock + (clock >= at) for clock in resets])) + more
        high = chosen.choice((4, 4, max(guards[by][1], 1), min(guards[by][1], machine.limits[room][by])))
        doors.append((room, wide(guards, (0, high)), tuple(sorted(resets)), goal))
    limits = [wide(row, chosen.choice((4, row[by]))) for row in machine.limits]
    return Machine(machine.clocks + 1, tuple(limits), tuple(doors))


def cases(seed, many):
    chosen = random.Random(seed)
    found = [M, HOLDS, BASE, MACHINE, Machine(3, ((0, 0, 0),), ())]
    while len(found) < many:
        machine = random_machine(chosen, chosen.choice((1, 2)), chosen.choice((1, 2, 3)), chosen.choice((2, 4, 6)))
        if chosen.randrange(3):
            machine = with_a_covered_clock(chosen, machine)
        if machine.clocks < 3 and chosen.randrange(2):
            machine = with_a_covered_clock(chosen, machine)
        found.append(copied(chosen, machine) if chosen.randrange(3) else machine)
    return found


CASES = cases(170, 220)


def partitions(rooms):
    """All lots of the rooms, by their least rooms."""
    found = [()]
    for room in range(rooms):
        found = [lots[:at] + (lots[at] + (room,),) + lots[at + 1:] for lots in found for at in range(len(lots))] + [
            lots + ((room,),) for lots in found]
    return found


def is_fair(machine, lots):
    place = {room: at for at, lot in enumerate(lots) for room in lot}
    for lot in lots:
        for one, other in product(lot, repeat=2):
            if machine.limits[one] != machine.limits[other]:
                return False
            for door in machine.doors:
                if door[0] == one and not [1 for far in machine.doors if far[0] == other and far[1:3] == door[1:3]
                                           and place[far[3]] == place[door[3]]]:
                    return False
    return True


def rooms_led_to(machine):
    found = {0}
    for _ in range(machine.rooms):
        found |= {door[3] for door in machine.doors if door[0] in found}
    return tuple(sorted(found))


def all_covers(machine):
    found = []
    for c, b in product(range(machine.clocks), repeat=2):
        fits = c != b and all([limits[c] >= limits[b] for limits in machine.limits])
        for room, guards, resets, goal in machine.doors:
            fits = fits and (b not in resets or c in resets) and guards[c][0] == 0
            fits = fits and guards[c][1] >= min(guards[b][1], machine.limits[room][b])
        if fits:
            found.append((c, b))
    return tuple(found)


def model(machine):
    """The lesser machine and the places, deed by deed."""
    rooms = rooms_led_to(machine)
    left = [index for index, door in enumerate(machine.doors) if door[0] in rooms]
    now = Machine(machine.clocks, tuple([machine.limits[room] for room in rooms]), tuple(
        [(rooms.index(machine.doors[index][0]),) + machine.doors[index][1:3] + (rooms.index(machine.doors[index][3]),)
         for index in left]))
    clocks = list(range(machine.clocks))
    while all_covers(now):
        out = all_covers(now)[0][0]
        del clocks[out]
        cut = lambda row: row[:out] + row[out + 1:]
        now = Machine(now.clocks - 1, tuple([cut(row) for row in now.limits]), tuple(
            [(room, cut(guards), tuple([clock - (clock > out) for clock in resets if clock != out]), goal)
             for room, guards, resets, goal in now.doors]))
    lots = min([lots for lots in partitions(now.rooms) if is_fair(now, lots)], key=len)
    place = {room: at for at, lot in enumerate(lots) for room in lot}
    doors, kept = [(place[door[0]],) + door[1:3] + (place[door[3]],) for door in now.doors], []
    for door, whole in zip(doors, now.doors):
        if whole[0] in [lot[0] for lot in lots] and door not in kept:
            kept.append(door)
    told = Machine(now.clocks, tuple([now.limits[lot[0]] for lot in lots]), tuple(kept))
    return told, (tuple([place[rooms.index(room)] if room in rooms else None for room in range(machine.rooms)]),
                  tuple([clocks.index(clock) if clock in clocks else None for clock in range(machine.clocks)]),
                  tuple([kept.index(doors[left.index(door)]) if door in left else None
                         for door in range(len(machine.doors))]))


class Parts(Case):
    def test_examples(self):
        self.examples(EXAMPLES, dict(vars(module), Machine=Machine), vars(errors))

    def test_rooms_and_clocks(self):
        counts = [0, 0]
        for machine in CASES:
            self.same(came(machine), rooms_led_to(machine))
            self.same(covers(machine), all_covers(machine))
            counts = [counts[0] + (len(came(machine)) < machine.rooms), counts[1] + len(covers(machine))]
        self.assertGreater(min(counts), 30)

    def test_covers_at_equality(self):
        """What covers just so, and what does not by one: limits, guards, and doors that put back one clock alone."""
        def told(limits, guards, resets):
            return covers(Machine(2, (limits, (4, 4)), ((0, guards, resets, 1),)))
        self.same(told((2, 3), ((1, 2), (0, 2)), (0, 1)), ((1, 0),))
        self.same([told((3, 2), ((1, 2), (0, 2)), (0, 1)), told((2, 3), ((1, 2), (0, 1)), (0, 1)),
                   told((2, 3), ((1, 2), (1, 2)), (0, 1)), told((2, 3), ((1, 2), (0, 2)), (0,))], [()] * 4)
        self.same([told((2, 3), ((1, 4), (0, 2)), (1,)), told((2, 3), ((1, 4), (0, 1)), (1,))], [((1, 0),), ()])
        self.same([told((2, 2), ((0, 2), (0, 2)), ()), covers(Machine(3, ((1, 1, 1),), ()))],
                  [((0, 1), (1, 0)), ((0, 1), (0, 2), (1, 0), (1, 2), (2, 0), (2, 1))])

    def test_alike_rooms(self):
        less = 0
        for machine in CASES:
            fair = [lots for lots in partitions(machine.rooms) if is_fair(machine, lots)]
            found = alike(machine)
            self.same(found, min(fair, key=len))
            self.same([len(lots) for lots in fair].count(len(found)), 1)
            less += len(found) < machine.rooms
            for lots in fair:
                self.assertTrue(all([[1 for far in found if set(lot) <= set(far)] for lot in lots]))
        self.assertGreater(less, 50)

    def test_fair_lots_are_judged(self):
        for machine in CASES[:80]:
            for lots in partitions(machine.rooms):
                self.same(are_fair(machine, lots), is_fair(machine, lots))
        right = [((0,), (1,), (2,)), ((0,), (1, 2))]
        wrong = [((0,), (2, 1)), ((1, 2), (0,)), ((0,), (1,)), ((0,), (1, 2), ()), ((0,), (1, 2), (3,)), ((0,), (1, 2), (2,)),
                 ((0, 1), (2,)), ((0, 1, 2),), [(0,), (1, 2)], ((0,), [1, 2]), ((False,), (1, 2)), ((0,), (True, 2)), (),
                 ((0,), (2,), (1,)), ((0,), (1, 2), 0), ((0,), 1, 2), ((0,), (1, 1, 2))]
        self.judged(lambda value: are_fair(M, value), right, wrong)

    def test_wrong_arguments(self):
        for call in (came, covers, alike, lesser, places, lambda machine: are_fair(machine, 0),
                     lambda machine: led_there(machine, 0), lambda machine: led_back(machine, 0)):
            self.all_refused(InvalidMachine, call, NO_MACHINES)
        for call in (led_there, led_back):
            wrong = NO_ROWS + ((((1, 1), 2),), (((1, 1), 0), ((1, 1), 0)))
            self.all_refused(InvalidRun, lambda run: call(M, run), wrong)
        # The run of each machine is one of its own.
        self.refused(InvalidRun, led_back, M, (((3, 2), 1), ((1, 1), 3)))
        self.refused(InvalidRun, led_there, M, (((3, 2), 0), ((1, 1), 1)))
        for value in EVERYTHING + NO_TUPLES:
            self.assertIn(are_fair(BASE, value), (True, False))


class Lesser(Case):
    def test_deeds(self):
        for machine in CASES:
            told, found = model(machine)
            self.same(lesser(machine) == told, True)
            self.same(places(machine), found)

    def test_once_is_enough(self):
        for machine in CASES:
            told = lesser(machine)
            self.same(lesser(told) == told, True)
            rows = tuple(range(told.rooms)), tuple(range(told.clocks)), tuple(range(len(told.doors)))
            self.same(places(told), rows)

    def test_runs_there_and_back(self):
        chosen = random.Random(171)
        long = 0
        for machine in CASES:
            told, (rooms, clocks, doors) = lesser(machine), places(machine)
            for _ in range(5):
                run = random_run(chosen, machine, 6)
                there = led_there(machine, run)
                self.same(there, tuple([(wait, doors[door]) for wait, door in run]))
                self.alike_runs(machine, run, there)
                one = random_run(chosen, told, 6)
                back = led_back(machine, one)
                self.alike_runs(machine, back, one)
                self.same(led_there(machine, back), one)
                long += len(one) > 2
                for (wait, door), standing in zip(back, standings(machine, back)):
                    least = [index for index in machine.doors_from(standing[0]) if doors[index] == doors[door]]
                    self.same(door, least[0])
        self.assertGreater(long, 200)

    def alike_runs(self, machine, run, less):
        """Both are runs, with the same needed margins and standings, but for what was left out."""
        told, (rooms, clocks, doors) = lesser(machine), places(machine)
        self.same((is_run(machine, run), is_run(told, less)), (True, True))
        self.same(needed(told, less), needed(machine, run))
        left = [clock for clock in range(machine.clocks) if clocks[clock] is not None]
        wanted = [(rooms[room], tuple([readings[clock] for clock in left])) for room, readings in standings(machine, run)]
        self.same(standings(told, less), tuple(wanted))

    def test_the_same_answers(self):
        tight = 0
        for machine in CASES:
            told, (rooms, clocks, doors) = lesser(machine), places(machine)
            lots = [[room for room in range(machine.rooms) if rooms[room] == place] for place in range(told.rooms)]
            exact = rooms_come_to(machine)
            self.same(rooms_come_to(told), tuple([place for place, lot in enumerate(lots) if set(lot) & set(exact)]))
            for place, lot in enumerate(lots):
                for m in (1, 3):
                    words = [within_answer(machine, room, m)[0] for room in lot]
                    self.same(within_answer(told, place, m)[0] == "come", "come" in words)
                if is_tight(machine) and machine.clocks < 3:
                    tight += 1
                    self.same(comes_with_every(told, place), True in [comes_with_every(machine, room) for room in lot])
        self.assertGreater(tight, 40)

    def test_loose_and_tight(self):
        counts = {True: 0, False: 0}
        for machine in CASES:
            rooms = rooms_led_to(machine)
            cut = Machine(machine.clocks, machine.limits, tuple([door for door in machine.doors if door[0] in rooms]))
            loose = loose_round(lesser(machine)) is not None
            self.same(loose, loose_round(cut) is not None)
            counts[loose] += 1
        self.assertGreater(min(counts.values()), 30)

    def test_edges(self):
        alone = Machine(2, ((3, 2), (1, 1)), ((1, ((0, 4), (0, 4)), (), 0), (1, ((0, 4), (0, 4)), (), 1)))
        self.same((lesser(alone) == Machine(1, ((2,),), ()), places(alone)), (True, ((0, None), (None, 0), (None, None))))
        self.same((led_there(alone, ()), led_back(alone, ())), ((), ()))
        # All clocks cover one another: one has to stay.
        same = Machine(3, ((1, 1, 1),), ((0, ((0, 1),) * 3, (0, 1, 2), 0),) * 2)
        self.same((lesser(same) == Machine(1, ((1,),), ((0, ((0, 1),), (0,), 0),)), places(same)),
                  (True, ((0,), (None, None, 0), (0, 0))))

    def test_what_is_not_true(self):
        # Alike rooms need not be come to alike, as far doors lead to one of them alone.
        machine = Machine(1, ((2,),) * 3, ((0, ((0, 2),), (), 1), (2, ((0, 2),), (), 2), (1, ((0, 2),), (), 1)))
        self.same((alike(machine), came(machine)), (((0, 1, 2),), (0, 1)))

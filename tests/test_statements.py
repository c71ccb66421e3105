"""The main statements [0.14] to [0.18], over the stages that they rest on."""
import random
from fractions import Fraction

from anymargin.come.every import comes_with_every, every_nodes, margin_answer
from anymargin.come.plain import rooms_come_to
from anymargin.come.walks import greatest_m, walk_for
from anymargin.come.within import is_table, within_answer
from anymargin.errors import Refused
from anymargin.less.lesser import lesser, places
from anymargin.machine.machines import Machine
from anymargin.machine.nets import Net, joined, split, stay_needed
from anymargin.machine.runs import goes, last_room, needed, room_behind
from anymargin.real.drift import drift_answer, least_rate, margin_for, own_readings, rate_for, true_run
from anymargin.real import ticks
from anymargin.real.logs import explain_answer, is_barring, least_explaining, log_of
from anymargin.real.ticks import ticking_fault, ticks_for
from tests.support import BASE, HOLDS, Case, pair, random_machine, random_run
from tests.test_every import HALF, TIGHT
from tests.test_ticks import random_ticking


class Statements(Case):
    def test_a_margin_or_every_margin(self):
        """Never both: a table for some m, and a run within 1/m for the same m."""
        for machine in TIGHT[:40]:
            for room in range(machine.rooms):
                answer = margin_answer(machine, room)
                if answer[0] == "every":
                    for m in (1, 3, 64, min(greatest_m(machine, answer[1]) or 200, 500)):
                        run = walk_for(machine, answer[1], m)
                        self.same((room_behind(machine, run), goes(machine, run, (1, m))), (room, True))
                        self.same(within_answer(machine, room, min(m, 8))[0], "come")
                else:
                    word, m, table = answer
                    self.same((comes_with_every(machine, room), is_table(machine, room, m, table)), (False, True))
                    for k in (m, min(64, m + 1), 64):
                        self.same(within_answer(machine, room, k)[0], "never")
                    for k in range(1, m):
                        self.same(within_answer(machine, room, k)[0], "come")

    def test_without_a_search(self):
        """What is come to exactly is come to with every margin, and some machines come further."""
        for machine in TIGHT:
            rooms = {node[0] for node in every_nodes(machine)}
            self.assertLessEqual(set(rooms_come_to(machine)), rooms)
        self.same((rooms_come_to(BASE), comes_with_every(BASE, 3)), ((0, 1, 2), True))

    def test_real_clocks(self):
        """If clocks are off by at most one part in 4 m + 1, each real run is a run within 1/m."""
        chosen = random.Random(150)
        met = 0
        for machine in TIGHT + self.unlike_clocks():
            margins = {room: margin_answer(machine, room) for room in range(machine.rooms)}
            runs = [random_run(chosen, machine, 6, (1, 2, 5)) for _ in range(20)]
            # Runs to rooms that have a margin come there within greater ones.
            runs += [within_answer(machine, room, m)[1] for room, answer in margins.items() if answer[0] == "margin"
                     for m in range(1, answer[1])]
            for run in runs:
                least = least_rate(machine, run)
                if least is None:
                    continue
                self.same(goes(machine, run, margin_for(least)), True)
                drift = drift_answer(machine, run, least)[1]
                self.same(true_run(machine, least, drift), run)
                self.same(len(own_readings(machine, least, drift)), len(run) + 1)
                room = room_behind(machine, run)
                if margins[room][0] == "margin":
                    met += 1
                    self.assertGreater(Fraction(*least), Fraction(*rate_for((1, margins[room][1]))))
        self.assertGreater(met, 20)

    def test_programs(self):
        """Where a margin keeps a machine out of a room, no program comes there that looks at enough ticks."""
        chosen = random.Random(152)
        right = 0
        for machine in TIGHT[:50]:
            margins = {room: answer[1] for room in range(machine.rooms)
                       for answer in (margin_answer(machine, room),) if answer[0] == "margin"}
            own = tuple([door for door in range(len(machine.doors)) if chosen.randrange(2)])
            for k, most in ((1, Fraction(0)), (2, Fraction(1, 4)), (5, Fraction(1, 20)), (9, Fraction(0))):
                for _ in range(30):
                    run = random_ticking(chosen, machine, own, k, most, 4)
                    if ticking_fault(machine, own, k, pair(most), run) is not None:
                        continue
                    real = ticks.true_run(machine, own, k, pair(most), run)
                    right += 1
                    self.same(goes(machine, real, pair(Fraction(1, k) + most)), True)
                    m = margins.get(room_behind(machine, real))
                    if m is not None:
                        least = ticks_for(m, pair(most))
                        self.assertTrue(least is None or k < least)
        self.assertGreater(right, 300)

    def test_explained(self):
        """What is seen of a run needs its margin at most, and less is barred by a round of bounds."""
        chosen = random.Random(153)
        for machine in TIGHT[:40]:
            run = random_run(chosen, machine, 7)
            for slack in ((0, 1), (1, 4), (3, 1)):
                log = log_of(machine, run, slack)
                word, margin, other, around = least_explaining(machine, log)
                self.same((word, goes(machine, other, margin)), ("least", True))
                self.assertLessEqual(Fraction(*margin), Fraction(*needed(machine, run)))
                for less in ((0, 1), pair(Fraction(*margin) * 9 / 10)):
                    if around is not None:
                        self.same((is_barring(machine, log, less, around), explain_answer(machine, log, less)[0]), (True, "barred"))

    def test_kept_by_lesser_machines(self):
        """Each answer of a lesser room is that of one of its rooms."""
        for machine in TIGHT[:40]:
            told, (rooms, clocks, doors) = lesser(machine), places(machine)
            for place in range(told.rooms):
                lot = [room for room in range(machine.rooms) if rooms[room] == place]
                answers = [margin_answer(machine, room)[:2] for room in lot]
                if margin_answer(told, place)[0] == "every":
                    self.assertIn("every", [answer[0] for answer in answers])
                else:
                    self.same(margin_answer(told, place)[1], max([answer[1] for answer in answers]))

    def unlike_clocks(self):
        """Machines with a door that asks for unlike readings of two clocks that begin at one time."""
        pairs = [(low, high) for low in range(1, 4) for high in range(low + 1, 5)]
        return [Machine(2, ((4, 4), (4, 4)), ((0, ((0, 4), (1, 4)), (0, 1), 0), (0, ((low, low), (high, high)), (0, 1), 1)))
                for low, high in pairs]

    def test_machines_side_by_side(self):
        """A stay of the net goes within just what both sides go within; and a run that needs 1/3, joined to one that
        needs 1/4, needs 1/3."""
        machine = Machine(1, ((4,),), ((0, ((1, 1),), (0,), 0),))
        net = Net(machine, machine, ())
        one, other = ((((2, 3), 0),), (1, 12)), ((((3, 4), 0),), (0, 1))
        both = joined(net, one, other)
        self.same([stay_needed(machine, one), stay_needed(machine, other), stay_needed(net.machine, both)],
                  [(1, 3), (1, 4), (1, 3)])
        self.same(split(net, both), (one, other))

    def test_what_is_not_true(self):
        # A machine whose rounds put back some clock each need not be tight.
        with self.assertRaises(Refused):
            margin_answer(HALF, 0)
        # What is not come to exactly can be come to with all margins, however small.
        self.same([needed(BASE, within_answer(BASE, 3, m)[1]) for m in (1, 64)], [(1, 1), (1, 64)])
        self.same(margin_answer(HOLDS, 1)[:2], ("margin", 2))

    def test_rooms_of_random_runs(self):
        """No run that is tried comes within 1/m to a room for which there is a table."""
        chosen = random.Random(151)
        for _ in range(60):
            machine = random_machine(chosen, chosen.choice((1, 2)), 3, 5)
            never = {m: [room for room in range(3) if within_answer(machine, room, m)[0] == "never"] for m in (1, 2, 4)}
            for _ in range(40):
                run = random_run(chosen, machine, 5)
                for m, rooms in never.items():
                    if last_room(machine, run) in rooms:
                        self.assertGreater(Fraction(*needed(machine, run)), Fraction(1, m))
                        self.same(goes(machine, run, pair(Fraction(1, m))), False)

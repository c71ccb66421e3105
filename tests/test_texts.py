"""Stage 20: texts and the shell, against lines that are written by hand, and texts that are changed line by line."""
import random
from unittest import mock

from anymargin import errors
from anymargin.clock.classes import classes_within
from anymargin.come import every, within
from anymargin.come.every import chain_to, comes_with_every, is_chain, margin_answer
from anymargin.come.plain import rooms_come_to
from anymargin.come.within import is_table, within_answer
from anymargin.errors import InvalidChain, InvalidClass, InvalidMachine, InvalidNumber, InvalidRun, InvalidTable, ParseError
from anymargin.machine.machines import Machine
from anymargin.machine.runs import is_run
from anymargin.text import shell, texts
from anymargin.text.shell import Shell
from anymargin.text.texts import (
    read_chain, read_class, read_machine, read_run, read_table, write_chain, write_class, write_machine, write_run,
    write_table)
from anymargin.zone.zones import Zone, whole_zone
from tests.support import (
    BASE, EVERYTHING, HOLDS, LONG, MACHINE, MOST, NO_INTEGERS, Case, is_tight, random_machine, random_run)
from tests.test_classes import NO_CLASSES
from tests.test_every import CHAIN, LOOSE, SPIN, TIGHT
from tests.test_runs import LOOP, NO_MACHINES, NO_ROWS

EXAMPLES = """
>>> write_machine(HOLDS)
'clocks 2\\nroom 4 4\\nroom 4 4\\ndoor 0 1..1 0..4 0,1 0\\ndoor 0 0..0 2..2 - 1\\n'
>>> [read_machine(write_machine(HOLDS)) == HOLDS, write_class(((0, 0), ((), (0,), (1,)))), read_class(2, "0,0:1|0"), read_class(1, "0:")]
[True, '0,0:|0|1', ((0, 0), ((1,), (0,))), None]
>>> [read_run(HOLDS, "step 1 0\\nstep 3/2 1\\n"), write_chain(HOLDS, (("wait",),) * 2 + (("door", 0),)), write_run(())]
[(((1, 1), 0), ((3, 2), 1)), 'wait\\nwait\\ndoor 0\\n', '']
>>> S = Shell()
>>> [S.do(line) for line in ("clocks 1", "room 4", "door 0 0..4 0 1", "door 0 0..4 - 0", "ask 0", "undo", "exactly 0", "ask 0")]
[('taken',), ('taken',), ('wrong',), ('taken',), ('loose',), ('left out',), ('come',), ('every',)]
>>> read_machine("clocks 1\\n")
raises ParseError(1)
"""

NO_STRINGS = tuple([value for value in EVERYTHING if not isinstance(value, str)])

# Strings that are no integers, though some of them can be read as such.
NO_FIGURES = ("", "-", "-0", "00", "01", "+1", "1 ", " 1", "1_0", "1.0", "0x1", "a", "1e0", "--1", "1-", "*", ",", "/", "1/1",
              "True", "None", "\t1", "1\r", "9" * 61, "9" * 5000)


def wrong_at(case, read, text, index):
    with case.subTest(text=text[:200], index=index):
        case.refused(ParseError, read, text, spot=index)


def machines(seed, many):
    chosen = random.Random(seed)
    found = [HOLDS, BASE, SPIN, MACHINE, LOOP, LOOSE, Machine(3, ((0, 1, 2),) * 6, ((5, ((0, 4), (1, 1), (2, 3)), (0, 2), 4),) * 12)]
    while len(found) < many:
        found.append(random_machine(chosen, chosen.choice((1, 2, 3)), chosen.choice((1, 3, 6)), chosen.randrange(13)))
    return found


MACHINES = machines(200, 80)


def digit_changed(chosen, line):
    """The line with another figure in the place of one."""
    places = [at for at, sign in enumerate(line) if sign.isdigit()] or [0]
    at = chosen.choice(places)
    return line[:at] + chosen.choice("01234") + line[at + 1:]


def broken(chosen, text):
    """Texts that differ from a text a little: (text, least index that can be wrong)."""
    lines = text.split("\n")[:-1]
    found = [(text[:-1], len(lines) - 1), (text + "\n", len(lines)), (text + " ", len(lines)), ("\n" + text, 0)]
    for at in range(len(lines)):
        line = lines[at]
        spot = chosen.randrange(len(line) + 1)
        for other in (line + " ", " " + line, line.replace(" ", "  "), line.upper(), "", line[:-1], line + "\t", line[:spot] + chosen.choice(
                "0123456789-,.|:/* wx") + line[spot:], line[:spot] + line[spot + 1:], line.replace(" ", ","),
                      digit_changed(chosen, line), digit_changed(chosen, line)):
            found.append(("".join([row + "\n" for row in lines[:at] + [other] + lines[at + 1:]]), at))
    return found


class Machines(Case):
    def test_examples(self):
        names = dict(vars(texts), HOLDS=HOLDS, Shell=Shell)
        self.examples(EXAMPLES, names, vars(errors))

    def test_written_and_read(self):
        seen = {}
        for machine in MACHINES:
            text = write_machine(machine)
            self.same(read_machine(text) == machine, True)
            self.assertTrue(seen.setdefault(text, machine) == machine)
            rows = ["clocks " + str(machine.clocks)] + ["room " + " ".join(map(str, limits)) for limits in machine.limits]
            for room, guards, resets, goal in machine.doors:
                told = " ".join(["%d..%d" % pair for pair in guards])
                rows.append("door %d %s %s %d" % (room, told, ",".join(map(str, resets)) or "-", goal))
            self.same(text, "\n".join(rows) + "\n")

    def test_changed_texts(self):
        """What is read is the text of the value; otherwise the first wrong line is told."""
        chosen = random.Random(201)
        counts = {True: 0, False: 0}
        for machine in MACHINES[:40]:
            for text, least in broken(chosen, write_machine(machine)):
                try:
                    found = read_machine(text)
                except ParseError as error:
                    counts[False] += 1
                    self.assertGreaterEqual(error.spot, least)
                    # The lines ahead of the wrong one are no wrong ones.
                    part = "".join([line + "\n" for line in text.split("\n")[:error.spot]])
                    try:
                        read_machine(part)
                    except ParseError as less:
                        self.same(less.spot, error.spot)
                else:
                    counts[True] += 1
                    self.same(write_machine(found), text)
        self.assertGreater(min(counts.values()), 30)

    def test_wrong_lines(self):
        top = "clocks 1\nroom 4\nroom 3\n"
        for text, index in (
                ("", 0), ("clocks 1", 0), ("\n", 0), ("clocks 0\n", 0), ("clocks 4\n", 0), ("clocks 1 1\n", 0), ("Clocks 1\n", 0),
                ("clocks\n", 0), ("room 4\n", 0), ("door 0 0..4 - 0\n", 0), ("clocks 1\n", 1), ("clocks 1\nclocks 1\n", 1),
                ("clocks 1\nroom 5\n", 1), ("clocks 1\nroom\n", 1), ("clocks 1\nroom 4 4\n", 1), ("clocks 2\nroom 4\n", 1),
                ("clocks 1\ndoor 0 0..4 - 0\n", 1), ("clocks 1\nroom 4", 1), (top + "clocks 1\n", 3), (top + "door 0 0..4 - 2\n", 3),
                (top + "door 2 0..4 - 0\n", 3), (top + "door 0 0..5 - 0\n", 3), (top + "door 0 2..1 - 0\n", 3),
                (top + "door 0 0..4 1 0\n", 3), (top + "door 0 0..4 0,0 0\n", 3), (top + "door 0 0..4  0\n", 3),
                (top + "door 0 0..4 0\n", 3), (top + "door 0 0..4 0..4 0 0\n", 3), (top + "door 0 0.4 0 0\n", 3),
                (top + "door 0 0...4 0 0\n", 3), (top + "door 0 0..4..4 0 0\n", 3), (top + "door 0 -0..4 0 0\n", 3),
                (top + "door 0 0..4 -1 0\n", 3), (top + "door -1 0..4 0 0\n", 3), (top + "door 0 0..4 - 0\nroom 1\n", 4),
                (top + "door 0 0..4 - 0\ndoor 0 0..4 - 0", 4), (top + "door 0 0..4 - 0\n\n", 4), (top + "\nwrong\n", 3),
                ("clocks 1\n" + "room 0\n" * 7, 7), (top + "door 0 0..4 - 0\n" * 13, 15), (top + "door 0 0..4 - 0\r\n", 3)):
            wrong_at(self, read_machine, text, index)
        self.same(read_machine("clocks 1\n" + "room 0\n" * 6).rooms, 6)
        self.same(len(read_machine(top + "door 0 0..4 - 0\n" * 12).doors), 12)
        for figures in NO_FIGURES:
            if "\n" not in figures:
                wrong_at(self, read_machine, f"clocks {figures}\n", 0)
                wrong_at(self, read_machine, f"clocks 1\nroom {figures}\n", 1)
                wrong_at(self, read_machine, f"{top}door {figures} 0..4 0 1\n", 3)
                wrong_at(self, read_machine, f"{top}door 0 0..{figures} 0 1\n", 3)
                wrong_at(self, read_machine, f"{top}door 0 0..4 0 {figures}\n", 3)
                if figures != "-":
                    wrong_at(self, read_machine, f"{top}door 0 0..4 {figures} 0\n", 3)

    def test_wrong_arguments(self):
        self.all_refused(InvalidMachine, write_machine, NO_MACHINES)
        for value in NO_STRINGS:
            self.refused(ParseError, read_machine, value, spot=None)
            for call in (read_run, read_chain, read_table):
                self.refused(ParseError, call, HOLDS, value, spot=None)
        for call in (read_run, read_chain, read_table, write_chain):
            self.all_refused(InvalidMachine, lambda machine: call(machine, 0), NO_MACHINES)
        for value in EVERYTHING:
            if isinstance(value, str):
                self.refused(ParseError, read_machine, value, spot=0)


class Runs(Case):
    def test_written_and_read(self):
        chosen = random.Random(202)
        seen = {}
        for machine in MACHINES:
            for _ in range(6):
                run = random_run(chosen, machine, 9)
                text = write_run(run)
                self.same(read_run(machine, text), run)
                self.same(seen.setdefault(text, run), run)
                rows = ["step %s %d" % (top if bottom == 1 else "%d/%d" % (top, bottom), door) for (top, bottom), door in run]
                self.same(text, "".join([row + "\n" for row in rows]))
        self.same((write_run(()), read_run(HOLDS, "")), ("", ()))
        long = (((MOST, 1), 0), ((1, MOST), 11), ((0, 1), 5))
        self.same(write_run(long), f"step {MOST} 0\nstep 1/{MOST} 11\nstep 0 5\n")
        self.same(read_run(LOOP, f"step {MOST}/{MOST - 1} 0\n"), (((MOST, MOST - 1), 0),))

    def test_changed_texts(self):
        chosen = random.Random(203)
        counts = {True: 0, False: 0}
        for machine in MACHINES:
            run = random_run(chosen, machine, 5)
            if not run:
                continue
            for text, least in broken(chosen, write_run(run)):
                try:
                    found = read_run(machine, text)
                except ParseError as error:
                    counts[False] += 1
                    self.assertGreaterEqual(error.spot, least)
                    part = "".join([line + "\n" for line in text.split("\n")[:error.spot]])
                    self.same(len(read_run(machine, part)), error.spot)
                else:
                    counts[True] += 1
                    self.same((write_run(found), is_run(machine, found)), (text, True))
        self.assertGreater(min(counts.values()), 30)

    def test_wrong_lines(self):
        read = lambda text: read_run(HOLDS, text)
        for text, index in (
                ("step 1 0", 0), ("\n", 0), ("step 1 0\nstep 1 0", 1), ("step 1 0\n\n", 1), ("step 1\n", 0), ("step 1 0 0\n", 0),
                ("Step 1 0\n", 0), ("step 2/4 0\n", 0), ("step 1/1 0\n", 0), ("step 0/1 0\n", 0), ("step -1 0\n", 0),
                ("step 1/0 0\n", 0), ("step 1/-2 0\n", 0), ("step 1/2/3 0\n", 0), ("step / 0\n", 0), ("step 1/ 0\n", 0),
                ("step 1 2\n", 0), ("step 1 -1\n", 0), ("step 1 1\nstep 1 0\n", 1), ("step 1 0\nstep 1 1\nstep 1 1\n", 2),
                ("wait\n", 0), ("step  1 0\n", 0), (" step 1 0\n", 0), ("step 1 0 \n", 0)):
            wrong_at(self, read, text, index)
        for figures in NO_FIGURES:
            wrong_at(self, read, f"step 1 0\nstep 1 {figures}\n", 1)
            wrong_at(self, read, f"step 1 0\nstep {figures} 0\n", 1)
        wrong_at(self, lambda text: read_run(MACHINE, text), "step 0 0\n", 0)

    def test_as_many_steps_as_are_let(self):
        text = "step 1/2 0\n" * 20000
        self.same(len(read_run(LOOP, text)), 20000)
        wrong_at(self, lambda text: read_run(LOOP, text), text + "step 1/2 0\n", 20000)
        self.same(write_run((((1, 2), 0),) * 20000), text)

    def test_wrong_arguments(self):
        self.all_refused(InvalidRun, write_run, NO_ROWS)


class Classes(Case):
    def test_written_and_read(self):
        seen = {}
        for limits in ((4,), (4, 4), (2, 1, 2)):
            for cls in classes_within(limits):
                piece = write_class(cls)
                self.same(read_class(len(limits), piece), cls)
                self.same(seen.setdefault(piece, cls), cls)
                for clocks in {1, 2, 3} - {len(limits)}:
                    self.same(read_class(clocks, piece), None)
        self.same([write_class(cls) for cls in (((4,), ((0,),)), ((0, 3, 2), ((1,), (0, 2))), ((0,), ((), (0,))))],
                  ["4:0", "0,3,2:1|0,2", "0:|0"])

    def test_other_strings(self):
        for text in ("", ":", "0", "0:", "0:0:", "0,0:0", "0:0,1", "5:0", "4:|0", "0:|", "0:0|", "00:0", "0:00", " 0:0", "0:0 ", "0:0\n",
                     "0:|0|", "0: |0", "-1:0", "0:-", "0:1", "0:0|0", "0;0", "True:0", "0:||0"):
            self.same(read_class(1, text), None)
        for text in ("0,0:1,0", "0,0:0|0,1", "0,0:0", "0,0:0||1", "0 ,0:0,1", "0,0,0:0,1", "0,0:,0,1", "0,0:0,1,2", ",0:0,1", "0.0:0.1"):
            self.same(read_class(2, text), None)
        for value in EVERYTHING:
            if isinstance(value, str):
                self.same([read_class(clocks, value) for clocks in (1, 2, 3)], [None] * 3)

    def test_wrong_arguments(self):
        self.all_refused(InvalidClass, write_class, NO_CLASSES)
        self.all_refused(InvalidNumber, lambda clocks: read_class(clocks, 0), NO_INTEGERS + (0, 4), "given")
        for value in NO_STRINGS:
            self.refused(ParseError, read_class, 1, value, spot=None)


class Chains(Case):
    def test_written_and_read(self):
        rounds = 0
        for machine in TIGHT:
            for room in range(machine.rooms):
                chain = chain_to(machine, room)
                if chain is not None:
                    text = write_chain(machine, chain)
                    self.same(read_chain(machine, text), chain)
                    self.same(text.count("\n"), len(chain))
                    rounds += "round" in text
        self.assertGreater(rounds, 10)
        lines = ["wait", "wait", "door 0", "round 0,0:1|0 w.w.w.w.w.1.w.w.2 0,0:0,1", "wait", "wait", "wait", "wait", "door 1", "door 3"]
        self.same(write_chain(BASE, CHAIN), "".join([line + "\n" for line in lines]))
        self.same((write_chain(BASE, ()), read_chain(BASE, "")), ("", ()))
        self.same(write_chain(SPIN, (("round", ((0,), ((0,),)), (("wait",), ("wait",), ("door", 0)), ((0,), ((0,),))),)),
                  "round 0:0 w.w.0 0:0\n")

    def test_changed_texts(self):
        chosen = random.Random(204)
        counts = {True: 0, False: 0}
        for machine in [BASE, HOLDS] + TIGHT[30:60]:
            for room in range(1, machine.rooms):
                chain = chain_to(machine, room)
                if not chain:
                    continue
                for text, least in broken(chosen, write_chain(machine, chain)):
                    try:
                        found = read_chain(machine, text)
                    except ParseError as error:
                        counts[False] += 1
                        self.assertGreaterEqual(error.spot, least)
                        part = "".join([line + "\n" for line in text.split("\n")[:error.spot]])
                        self.same(len(read_chain(machine, part)), error.spot)
                    else:
                        counts[True] += 1
                        self.same((write_chain(machine, found), is_chain(machine, found)), (text, True))
        self.assertGreater(min(counts.values()), 10)

    def test_wrong_lines(self):
        read = lambda text: read_chain(BASE, text)
        top = "wait\nwait\ndoor 0\n"
        for text, index in (
                ("wait", 0), ("\n", 0), ("Wait\n", 0), ("wait \n", 0), ("wait 0\n", 0), ("door\n", 0), ("door 0\n", 0), ("door 4\n", 0),
                ("door 0 0\n", 0), ("door -\n", 0), (top + "door 3\n", 3), (top + "wait\n" * 9, 7), (top + "w\n", 3),
                (top + "round 0,0:1|0 w.w.w.w.w.1.w.w.2 0,0:0,1", 3), (top + "round 0,0:1|0 w.w.w.w.w.1.w.w.2\n", 3),
                (top + "round 0,0:1|0 w.w.w.w.w.1.w.w 0,0:0,1\n", 3), (top + "round 0,0:1|0 - 0,0:0,1\n", 3),
                (top + "round 0,0:1|0  0,0:0,1\n", 3), (top + "round 0,0:1|0 w,w,w,w,w,1,w,w,2 0,0:0,1\n", 3),
                (top + "round 0,0:1|0 w.w.w.w.w.1.w.w.2. 0,0:0,1\n", 3), (top + "round 0,0:1|0 w.w.w.w.w.01.w.w.2 0,0:0,1\n", 3),
                (top + "round 0,0:1|0 w.w.w.w.w.1.w.w.2 1,1:0,1\n", 3), (top + "round 0,0:0,1 w.w.w.w.w.1.w.w.2 0,0:0,1\n", 3),
                (top + "round 0,0:1|0 wait.w.w.w.w.1.w.w.2 0,0:0,1\n", 3), (top + "round 0:0 w.w.w.w.w.1.w.w.2 0,0:0,1\n", 3)):
            wrong_at(self, read, text, index)
        for figures in NO_FIGURES:
            wrong_at(self, read, f"{top}door {figures}\n", 3)
            wrong_at(self, read, f"{top}round 0,0:1|0 w.w.w.w.w.{figures}.w.w.2 0,0:0,1\n", 3)

    def test_as_many_links_as_are_let(self):
        machine = Machine(1, ((0,),), ((0, ((0, 0),), (0,), 0),))
        text = "door 0\n" * 20000
        self.same(len(read_chain(machine, text)), 20000)
        wrong_at(self, lambda text: read_chain(machine, text), text + "door 0\n", 20000)
        row = ".".join(["0"] * 20000)
        self.same(len(read_chain(machine, f"round 0:0 {row} 0:0\n")[0][2]), 20000)
        wrong_at(self, lambda text: read_chain(machine, text), f"round 0:0 {row}.0 0:0\n", 0)

    def test_wrong_arguments(self):
        wrong = tuple([value for value in EVERYTHING if value != ()]) + (CHAIN[1:],)
        self.all_refused(InvalidChain, lambda chain: write_chain(BASE, chain), wrong)


class Tables(Case):
    def test_written_and_read(self):
        tables = 0
        for machine in TIGHT:
            for room in range(machine.rooms):
                for m in (1, 3):
                    word, table = within_answer(machine, room, m)
                    if word == "never":
                        tables += 1
                        text = write_table(table)
                        found = read_table(machine, text)
                        self.assertEqual(found, table)
                        self.same((is_table(machine, room, m, found), write_table(found)), (True, text))
        self.assertGreater(tables, 50)
        wide = (Zone(2, 3, ((0, -1, None), (None, 7, 0), (5, None, None))), whole_zone(2, 3))
        self.same(write_table(((), wide, (), wide[1:])),
                  "unit 3\nzone 1 0 -1 -1 5 0 0 5 4 0\nzone 1 0 0 0 * 0 * * * 0\nzone 3 0 0 0 * 0 * * * 0\n")
        self.assertEqual(read_table(BASE, write_table(((), wide, (), wide[1:]))), ((), wide, (), wide[1:]))

    def test_changed_texts(self):
        chosen = random.Random(205)
        counts = {True: 0, False: 0}
        for machine in [HOLDS] + TIGHT[:30]:
            for room in range(machine.rooms):
                word, table = within_answer(machine, room, 2)
                if word != "never":
                    continue
                for text, least in broken(chosen, write_table(table)):
                    try:
                        found = read_table(machine, text)
                    except ParseError as error:
                        counts[False] += 1
                        self.assertGreaterEqual(error.spot, least)
                    else:
                        counts[True] += 1
                        self.same((write_table(found), len(found)), (text, machine.rooms))
        self.assertGreater(min(counts.values()), 15)

    def test_wrong_lines(self):
        read = lambda text: read_table(HOLDS, text)
        zone = "zone 0 0 0 0 0 0 0 0 0 0\n"
        for text, index in (
                ("", 0), ("unit 2", 0), ("unit 2\n", 1), ("unit 0\n", 0), ("unit 65\n", 0), ("unit\n", 0), ("unit 2 2\n", 0), (zone, 0),
                ("Unit 2\n" + zone, 0), ("unit 2\nunit 2\n", 1), ("unit 2\n" + zone + "unit 2\n", 2), ("unit 2\n" + zone[:-1], 1),
                ("unit 2\n" + zone + "\n", 2), ("unit 2\n" + zone.replace("zone 0", "zone 2"), 1),
                ("unit 2\n" + zone.replace("zone 0", "zone 1") + zone, 2), ("unit 2\nzone 0 0 0 0 0\n", 1),
                ("unit 2\nzone 0 0 0 0 0 0 0 0 0 0 0\n", 1), ("unit 2\nzone 0 0 * 0 0 0 0 0 0 0\n", 1),
                ("unit 2\nzone 0 0 -1 0 0 0 0 0 0 0\n", 1), ("unit 2\nzone 0 0 0 0 5 0 0 0 0 0\n", 1),
                ("unit 2\nzone 0 -1 0 0 0 0 0 0 0 0\n", 1),
                ("unit 2\nzone 0 0 0 0 3 0 * 3 0 0\n", 1)):
            wrong_at(self, read, text, index)
        for figures in NO_FIGURES:
            wrong_at(self, read, f"unit {figures}\n", 0)
            wrong_at(self, read, f"unit 2\n{zone}zone {figures} 0 0 0 0 0 0 0 0 0\n", 2)
            if figures != "*":
                wrong_at(self, read, f"unit 2\n{zone}zone 0 0 0 0 {figures} 0 0 0 0 0\n", 2)
        self.assertEqual(read("unit 2\n" + zone + zone), ((Zone(2, 2, ((0, 0, 0),) * 3),) * 2, ()))

    def test_wrong_arguments(self):
        one, other, far = whole_zone(1, 1), whole_zone(1, 2), whole_zone(2, 1)
        empty = Zone(1, 1, ((0, -3), (2, 0)))
        wrong = (((),), ((), ()), ((one,),) * 7, ((one, other),), ((one,), (far,)), ((one, empty),), ((empty,),), [(one,)], ([one],),
                 ((one,), 0), (one,), ((one, None),), ((one,), None), ((one.bounds,),))
        self.all_refused(InvalidTable, write_table, wrong + EVERYTHING)
        self.same(write_table(((one,),) * 6).count("\n"), 7)


class Answers(Case):
    def test_texts_alone_have_the_answers(self):
        """Who has the text of a machine, and of a chain or a table, can judge the answer."""
        for machine in TIGHT[:30]:
            text = write_machine(machine)
            for room in range(machine.rooms):
                answer = margin_answer(machine, room)
                told = read_machine(text)
                if answer[0] == "every":
                    self.same(is_chain(told, read_chain(told, write_chain(machine, answer[1]))), True)
                else:
                    table = read_table(told, write_table(answer[2]))
                    self.same(is_table(told, room, answer[1], table), True)


class Shells(Case):
    def test_lines_that_are_taken_in(self):
        for machine in MACHINES[:40]:
            found = Shell()
            lines = write_machine(machine).split("\n")[:-1]
            for at, line in enumerate(lines):
                self.same((len(found), str(found), found.lines), (at, f"shell of {at} lines", tuple(lines[:at])))
                self.same(found.do(line), ("taken",))
            self.same((found.do("show"), found.lines, len(found)), (tuple(lines), tuple(lines), len(lines)))
            for room in range(machine.rooms):
                self.same(found.do(f"exactly {room}"), ("come" if room in rooms_come_to(machine) else "never",))
                if not is_tight(machine):
                    self.same(found.do(f"ask {room}"), ("loose",))
                elif machine.clocks < 3:
                    answer = margin_answer(machine, room)
                    self.same(found.do(f"ask {room}"), ("every" if answer[0] == "every" else f"margin {answer[1]}",))
            self.same([found.do(f"{word} {machine.rooms}") for word in ("exactly", "ask")], [("wrong",)] * 2)
            for at in range(len(lines), 0, -1):
                self.same((found.do("undo"), found.do("show")), (("left out",), tuple(lines[:at - 1])))
            self.same((found.do("undo"), found.do("show"), len(found)), (("nothing",), (), 0))

    def test_what_is_taken_is_what_can_be_read(self):
        """A line is taken in just if it is not the wrong one of the text with it."""
        chosen = random.Random(206)
        taken = 0
        for machine in MACHINES[:30]:
            found = Shell()
            for line in write_machine(machine).split("\n")[:-1]:
                for text, least in broken(chosen, line + "\n")[4:] + [(line + "\n", 0)]:
                    other = text[:-1]
                    if other in ("show", "undo"):
                        continue
                    ahead = "".join([row + "\n" for row in found.lines])
                    try:
                        read_machine(ahead + other + "\n")
                        right = True
                    except ParseError as error:
                        right = error.spot > len(found)
                    self.same(found.do(other), ("taken",) if right else ("wrong",))
                    if right:
                        taken += other != line
                        self.same(found.do("undo"), ("left out",))
                self.same(found.do(line), ("taken",))
        self.assertGreater(taken, 30)

    def test_other_lines_change_nothing(self):
        found = Shell()
        for line in ("", " ", "ask 0", "exactly 0", "room 4", "door 0 0..4 - 0", "clocks 4", "clocks 1\n", "Show", "show ", "undo 1", "ask",
                     "clocks 1 ", "a" * 3000):
            self.same((found.do(line), len(found)), (("wrong",), 0))
        found.do("clocks 1")
        for line in ("ask 0", "exactly 0", "clocks 1", "room 5", "room 4 4", "ask -1"):
            self.same((found.do(line), found.lines), (("wrong",), ("clocks 1",)))
        found.do("room 4")
        for line in ("ask 1", "ask 00", "ask  0", "ask 0 0", "ask -0", "exactly", "exactly 0\n", "ask True", "ask 0/1", "EXACTLY 0", "ask " + "0" * 70,
                     "door 0 0..4 - 1", "undo ", "left 0"):
            self.same((found.do(line), found.lines), (("wrong",), ("clocks 1", "room 4")))
        self.same([found.do("ask 0"), found.do("exactly 0"), found.do("door 0 0..4 0 0"), found.do("room 4")],
                  [("every",), ("come",), ("taken",), ("wrong",)])

    def test_answers_that_are_refused(self):
        found = Shell()
        for line in write_machine(HOLDS).split("\n")[:-1]:
            found.do(line)
        self.same(found.do("ask 1"), ("margin 2",))
        with mock.patch.object(within, "MOST_ZONES", 1):
            self.same(found.do("ask 1"), ("too many 1",))
        with mock.patch.object(within, "MOST_M", 1), mock.patch.object(every, "MOST_M", 1):
            self.same(found.do("ask 1"), ("too many 1",))
        self.same((found.do("door 0 0..4 0..4 0 0"), found.do("ask 1"), found.do("exactly 1")), (("taken",), ("loose",), ("come",)))

    def test_wrong_arguments(self):
        found = Shell()
        found.do("clocks 2")
        for value in NO_STRINGS:
            self.refused(ParseError, found.do, value, spot=None)
        self.same(found.lines, ("clocks 2",))
        with self.assertRaises(TypeError):
            iter(found)
        other = Shell()
        self.same((len(other), len(found), found == found, found == 5, found != "a"), (0, 1, True, False, True))
        self.same(shell.WRONG, ("wrong",))

"""A shell that takes in a machine line by line, and answers."""
from anymargin.base.checks import is_from_to
from anymargin.come.every import margin_answer
from anymargin.come.plain import plain_answer
from anymargin.errors import Refused, TooMany
from anymargin.machine.machines import Machine
from anymargin.text.pieces import read_number
from anymargin.text.texts import NO_LINES, check_text, with_line

WRONG = ("wrong",)


class Shell:
    """It changes: it has the lines of a machine so far."""

    def __init__(self):
        self._lines = []
        # What tells the machine before the first line, and behind each one.
        self._stages = [NO_LINES]

    @property
    def lines(self):
        """The tuple of the lines of the machine so far."""
        return tuple(self._lines)

    def do(self, line):
        """Takes in a line, or does what it says; the tuple of the lines of the answer."""
        check_text(line)
        if line == "show":
            return tuple(self._lines)
        if line == "undo":
            return self.leave_out()
        more = with_line(self._stages[-1], line)
        if more is None:
            return answer_to(self._stages[-1], line)
        self._lines.append(line)
        self._stages.append(more)
        return ("taken",)

    def leave_out(self):
        """Leaves out the last line; what is answered."""
        if not self._lines:
            return ("nothing",)
        self._lines.pop()
        self._stages.pop()
        return ("left out",)

    def __len__(self):
        return len(self._lines)

    def __str__(self):
        return f"shell of {len(self._lines)} lines"


def answer_to(told, line):
    """The answer to a line that asks about a room of the machine that is told so far."""
    clocks, limits, doors = told
    pieces = line.split(" ")
    if len(pieces) != 2 or pieces[0] not in ("exactly", "ask"):
        return WRONG
    room = read_number(pieces[1])
    if not is_from_to(room, 0, len(limits) - 1):
        return WRONG
    machine = Machine(clocks, limits, doors)
    if pieces[0] == "exactly":
        return (plain_answer(machine, room)[0],)
    return margin_lines(machine, room)


def margin_lines(machine, room):
    """The answer that tells of every margin, of one, or why neither is told."""
    try:
        answer = margin_answer(machine, room)
    except Refused:
        return ("loose",)
    except TooMany as why:
        return (f"too many {why.limit}",)
    if answer[0] == "every":
        return ("every",)
    return (f"margin {answer[1]}",)

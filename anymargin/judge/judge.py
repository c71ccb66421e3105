"""The judge: plain claims about machines, and the papers that show them. It searches for nothing."""
from anymargin.base.checks import GREATEST, are_numbers, is_from_to, is_row
from anymargin.base.fractions import is_from_zero
from anymargin.clock.classes import borders_of
from anymargin.come.every import does_end_in
from anymargin.come.plain import graph_of, is_closed_lot, is_exact_run
from anymargin.come.within import MOST_M, is_table
from anymargin.errors import InvalidClaim
from anymargin.machine.machines import Machine, is_falls, is_loose, is_tight, machine_fault
from anymargin.machine.runs import does_go, has_run_form, last_room
from anymargin.real.logs import does_bar_log, does_explain, has_log_form
from anymargin.zone.zones import Zone, are_bounds

# For each kind what stands behind the machine.
FIELDS = {
    "tight": (), "loose": (), "come exactly": ("room",), "never exactly": ("room",), "come within": ("room", "m"),
    "never within": ("room", "m"), "margin": ("room", "m"), "every": ("room",), "not every": ("room",),
    "explained": ("log", "margin"), "barred": ("log", "margin")}

# The kinds whose machine has to be tight.
TIGHT_KINDS = ("every", "not every", "margin")

OPPOSITES = {
    "tight": "loose", "loose": "tight", "come exactly": "never exactly", "never exactly": "come exactly",
    "come within": "never within", "never within": "come within", "every": "not every", "not every": "every",
    "explained": "barred", "barred": "explained"}


def is_claim(value):
    """Whether the value is a claim."""
    if not isinstance(value, tuple) or len(value) < 2 or not isinstance(value[0], str) or value[0] not in FIELDS:
        return False
    fields = FIELDS[value[0]]
    if len(value) != len(fields) + 2 or not is_told_machine(value[1]):
        return False
    machine = machine_told(value[1])
    if not all([is_field(machine, field, member) for field, member in zip(fields, value[2:])]):
        return False
    return value[0] not in TIGHT_KINDS or is_tight(machine)


def is_told_machine(value):
    """Whether the value is a triple that tells a machine."""
    return is_row(3, value) and machine_fault(value[0], value[1], value[2]) is None


def machine_told(value):
    """The machine that a triple tells."""
    clocks, limits, doors = value
    return Machine(clocks, limits, doors)


def is_field(machine, field, value):
    """Whether the value is what stands behind the machine in a claim."""
    if field == "room":
        return is_from_to(value, 0, machine.rooms - 1)
    if field == "m":
        return is_from_to(value, 1, MOST_M)
    if field == "log":
        return has_log_form(machine, value)
    return is_from_zero(value)


def is_tight_paper(machine, given, paper):
    """Whether the paper is falls."""
    return is_falls(machine, paper)


def is_loose_paper(machine, given, paper):
    """Whether the paper is a loose round."""
    return is_loose(machine, paper)


def is_come_exactly_paper(machine, given, paper):
    """Whether the paper is a run that comes to the room exactly."""
    return is_exact_run(machine, given[0], paper)


def is_never_exactly_paper(machine, given, paper):
    """Whether the paper is a closed lot of nodes without one of the room."""
    return is_closed_lot(machine, given[0], paper)


def is_come_within_paper(machine, given, paper):
    """Whether the paper is a run within 1/m that comes to the room."""
    room, m = given
    return has_run_form(machine, paper) and last_room(machine, paper) == room and does_go(machine, paper, (1, m))


def is_never_within_paper(machine, given, paper):
    """Whether the paper is a told table for the room and m."""
    room, m = given
    if not is_row(machine.rooms, paper) or not all([isinstance(row, tuple) for row in paper]):
        return False
    if not all([are_bounds(machine.clocks, told) for row in paper for told in row]):
        return False
    zones = [tuple([Zone(machine.clocks, m, told) for told in row]) for row in paper]
    return is_table(machine, room, m, tuple(zones))


def is_margin_paper(machine, given, paper):
    """Whether the paper is a pair of a told table for m, and of a run within 1/(m - 1), None for m being 1."""
    room, m = given
    if not is_row(2, paper) or not is_never_within_paper(machine, given, paper[0]):
        return False
    if m == 1:
        return paper[1] is None
    return is_come_within_paper(machine, (room, m - 1), paper[1])


def is_every_paper(machine, given, paper):
    """Whether the paper is a chain that ends in the room."""
    return does_end_in(machine, given[0], paper)


def is_not_every_paper(machine, given, paper):
    """Whether the paper is a pair of a lot of nodes, closed under moves and touched rounds, and of falls."""
    if not is_row(2, paper) or not is_closed_lot(machine, given[0], paper[0]):
        return False
    lot = set(paper[0])
    if not all([(room, border) in lot for room, cls in paper[0] for border in borders_of(cls)]):
        return False
    nodes, graph = graph_of(machine)
    if not are_numbers(len(nodes), -GREATEST, GREATEST, paper[1]):
        return False
    for place in range(len(nodes)):
        room, cls = nodes[place]
        # No round goes through a touched node outside: integers along it would fall and be the same.
        touched = nodes[place] not in lot and any([(room, border) in lot for border in borders_of(cls)])
        most = paper[1][place] - 1 if touched else paper[1][place]
        if any([paper[1][follower] > most for follower in graph[place]]):
            return False
    return True


def is_explained_paper(machine, given, paper):
    """Whether the paper is a run that explains the log within the margin."""
    return does_explain(machine, given[0], given[1], paper)


def is_barred_paper(machine, given, paper):
    """Whether the paper is a round of bounds whose sum at the margin is below 0."""
    return does_bar_log(machine, given[0], given[1], paper)


PAPERS = {
    "tight": is_tight_paper, "loose": is_loose_paper, "come exactly": is_come_exactly_paper,
    "never exactly": is_never_exactly_paper, "come within": is_come_within_paper,
    "never within": is_never_within_paper, "margin": is_margin_paper, "every": is_every_paper,
    "not every": is_not_every_paper, "explained": is_explained_paper, "barred": is_barred_paper}


def takes(claim, paper):
    """Whether the one is a claim, and the other one a paper for it."""
    if not is_claim(claim):
        return False
    judged = PAPERS[claim[0]]
    return judged(machine_told(claim[1]), claim[2:], paper)


def opposite(claim):
    """The opposite of a claim, None if there is none."""
    if not is_claim(claim):
        raise InvalidClaim("not a claim")
    if claim[0] not in OPPOSITES:
        return None
    return (OPPOSITES[claim[0]],) + claim[1:]

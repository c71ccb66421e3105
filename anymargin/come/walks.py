"""Runs made from chains: for each m a run within 1/m, corner by corner, and round by round in small steps."""
from math import gcd, lcm

from anymargin.base.checks import GREATEST, check_number
from anymargin.base.exact import reduced
from anymargin.clock.classes import class_behind, class_put_back
from anymargin.clock.corners import corners_of, leads
from anymargin.come.every import check_chain, node_behind_link
from anymargin.come.plain import WAIT, clock_move, first_node
from anymargin.errors import TooMany
from anymargin.machine.machines import check_machine
from anymargin.machine.runs import MOST_STEPS, does_go, doors_of, has_run_form


def check_walk(machine, chain, m):
    """Refuses what is not a machine, a chain of it, and an integer from 1 on."""
    check_machine(machine)
    check_chain(machine, chain)
    check_number(m, 1, GREATEST)


def links_of_rounds(chain):
    """The list of the links of the chain that are rounds."""
    return [link for link in chain if link[0] == "round"]


def doors_in(moves):
    """The tuple of the doors of some moves."""
    return tuple([move[1] for move in moves if move != WAIT])


def lead_rows(machine, cls, moves):
    """For each move of a round of the class the list that has for each corner the pairs (corner, wait) it leads to."""
    rows = []
    here = corners_of(cls)
    for move in moves:
        cls = class_behind(cls) if move == WAIT else class_put_back(cls, machine.doors[move[1]][2])
        there = corners_of(cls)
        change = clock_move(machine, move)
        rows.append([leads(corner, change, there) for corner in here])
        here = there
    return rows


def led_to(rows, corners):
    """The ascending list of the corners to which a row of moves leads some corners."""
    for row in rows:
        corners = sorted({goal for corner in corners for goal, wait in row[corner]})
    return corners


def round_goals(rows):
    """For each corner the list of the corners to which one round leads it."""
    return [led_to(rows, [corner]) for corner in range(len(rows[0]))]


def least_return(goals, corner):
    """The least number of rounds in which a corner comes back, None if it does not."""
    led = [corner]
    for many in range(1, len(goals) + 1):
        led = sorted({goal for place in led for goal in goals[place]})
        if corner in led:
            return many
    return None


def coming_back(rows):
    """For each corner that comes back the least number of rounds in which it does."""
    goals = round_goals(rows)
    found = {corner: least_return(goals, corner) for corner in range(len(goals))}
    return {corner: found[corner] for corner in found if found[corner] is not None}


def return_of(rows):
    """The pair (g, K) of a round: how many groups of rests its class has, and its return."""
    common = 1
    for many in coming_back(rows).values():
        common = lcm(common, many)
    return (len(rows[0]) - 1, common)


def returns(machine, chain):
    """The tuple of the pairs (g, K) for the rounds of the chain."""
    check_machine(machine)
    check_chain(machine, chain)
    return returns_of(machine, chain)


def returns_of(machine, chain):
    """What `returns` tells, without checks."""
    return tuple([return_of(lead_rows(machine, link[1], link[2])) for link in links_of_rounds(chain)])


def rounds_needed(machine, chain, m):
    """The tuple of how often each round of the chain is walked at most."""
    check_walk(machine, chain, m)
    return times_needed(machine, chain, m)


def times_needed(machine, chain, m):
    """What `rounds_needed` tells, without checks."""
    return tuple([2 * g + m * many for g, many in returns_of(machine, chain)])


def doors_needed(machine, chain, m):
    """How many doors a run has that follows the chain and walks each round so often."""
    check_walk(machine, chain, m)
    return doors_with(machine, chain, m)


def doors_with(machine, chain, m):
    """What `doors_needed` tells, without checks, also for m being 0."""
    total = len([link for link in chain if link[0] == "door"])
    for link, many in zip(links_of_rounds(chain), times_needed(machine, chain, m)):
        total += many * len(doors_in(link[2]))
    return total


def greatest_m(machine, chain):
    """The greatest m for which at most 20,000 doors are needed, 0 if there is none, None if it is so for all."""
    check_machine(machine)
    check_chain(machine, chain)
    if not links_of_rounds(chain):
        return None
    begin = doors_with(machine, chain, 0)
    return max(0, (MOST_STEPS - begin) // (doors_with(machine, chain, 1) - begin))


def walk_for(machine, chain, m):
    """A walk of the chain within 1/m."""
    check_walk(machine, chain, m)
    if doors_with(machine, chain, m) > MOST_STEPS:
        raise TooMany(MOST_STEPS)
    node = first_node(machine)
    corner = corners_of(node[1])[0]
    steps = []
    waiting = 0
    for link in chain:
        behind = node_behind_link(machine, node, link)
        if link[0] == "round":
            goal = corners_of(behind[1])[0]
            waiting = walk_round(machine, link, (corner, goal), m, (steps, waiting))
            corner = goal
        else:
            corners = corners_of(behind[1])
            at, wait = leads(corner, clock_move(machine, link), corners)[0]
            waiting = go_on(steps, waiting + wait, doors_in((link,)), [0, 0])
            corner = corners[at]
        node = behind
    return tuple(steps)


def go_on(steps, waiting, doors, waits):
    """Adds the doors, with the whole waits ahead of them, to the steps; what is waited behind the last one."""
    for door, wait in zip(doors, waits):
        steps.append(((waiting + wait, 1), door))
        waiting = 0
    return waiting + waits[-1]


def walk_round(machine, link, ends, m, ahead):
    """Adds to the steps how a round is walked from a corner to another one; what is waited behind the last door.

    `ahead` is the pair of the steps, and of what has been waited since the last one: a whole number at both ends.
    """
    cls, moves = link[1:3]
    steps, waiting = ahead
    rows = lead_rows(machine, cls, moves)
    g, many = return_of(rows)
    begin, end = [corners_of(cls).index(corner) for corner in ends]
    back = sorted(list(coming_back(rows)))
    first = [corner for corner in back if corner in led_to(rows * g, [begin])][0]
    last = [corner for corner in back if end in led_to(rows * g, [corner])][0]
    waiting = go_on(steps, waiting, doors_in(moves * g), by_doors(moves * g, corner_waits(rows * g, begin, first)))
    one = by_doors(moves * many, corner_waits(rows * many, first, first))
    other = by_doors(moves * many, corner_waits(rows * many, last, last))
    steps.extend(small_steps(doors_in(moves) * many, one, other, waiting, m))
    return go_on(steps, other[-1], doors_in(moves * g), by_doors(moves * g, corner_waits(rows * g, last, end)))


def small_steps(doors, one, other, waiting, m):
    """The list of the steps with which one goes, m times, through the doors: the waits change by even small steps.

    Each time it is gone with the waits with which the next one of m even points, from the one corner to the other one,
    comes back: ahead of each door, and behind the last one.
    """
    columns = []
    for place in range(len(doors)):
        # Counted by m: a wait is `start` ahead of the first time, and grows by `rise` each time.
        start, rise = m * one[place], other[place] - one[place]
        if place == 0:
            # What was waited behind the last door, the time before, is waited ahead of the first one, too.
            more = other[-1] - one[-1]
            start, rise = start + m * one[-1] - more, rise + more
        columns.append(counted_steps(doors[place], start, rise, m))
    found = [column[time] for time in range(m) for column in columns]
    found[0] = (reduced(m * (waiting + one[0]) + other[0] - one[0], m), doors[0])
    return found


def counted_steps(door, start, rise, m):
    """The list of the steps through a door, m times, with a wait that is counted by m, and grows from start on."""
    if rise == 0:
        return [(reduced(start, m), door)] * m
    tops = [start + rise * step for step in range(1, m + 1)]
    return [((top // common, m // common), door) for top in tops for common in [gcd(top, m)]]


def corner_waits(rows, begin, end):
    """The list of the waits of moves that lead from one corner to another one."""
    lots = [[end]]
    for row in reversed(rows):
        lot = lots[-1]
        lots.append([corner for corner in range(len(row)) if any([pair[0] in lot for pair in row[corner]])])
    waits = []
    here = begin
    # Behind each move a corner is chosen from which the other moves lead to the end.
    for row, lot in zip(rows, lots[-2::-1]):
        here, wait = [pair for pair in row[here] if pair[0] in lot][0]
        waits.append(wait)
    return waits


def by_doors(moves, waits):
    """The list of the waits, added up ahead of each door, and behind the last one."""
    sums = [0]
    for move, wait in zip(moves, waits):
        if move == WAIT:
            sums[-1] = sums[-1] + wait
        else:
            sums.append(0)
    return sums


def is_walk(machine, chain, m, value):
    """Whether the value is a walk of the chain within 1/m."""
    check_walk(machine, chain, m)
    if not has_run_form(machine, value) or not does_go(machine, value, (1, m)):
        return False
    return does_match(chain, times_needed(machine, chain, m), doors_of(value))


def does_match(chain, times, doors):
    """Whether the doors are those of the links, each round one to so many times."""
    marks = marks_of_doors(doors)
    # A bit stands for a number of doors: it is set if the links so far can have just the first so many ones.
    spots = 1
    at = 0
    for link in chain:
        if link[0] == "round":
            spots = behind_rounds(spots, marks, doors_in(link[2]), times[at])
            at += 1
        elif link[0] == "door":
            spots = (spots & marks.get(link[1], 0)) << 1
    return spots >> len(doors) & 1 == 1


def marks_of_doors(doors):
    """For each door an integer with the bits of its places."""
    marks = {}
    for place, door in enumerate(doors):
        marks[door] = marks.get(door, 0) | 1 << place
    return marks


def behind_rounds(spots, marks, row, many):
    """The spots behind one to so many times a row of doors."""
    fits = -1
    for place, door in enumerate(row):
        fits = fits & marks.get(door, 0) >> place
    found = 0
    while spots and many > 0:
        spots = (spots & fits) << len(row)
        found = found | spots
        many -= 1
    return found

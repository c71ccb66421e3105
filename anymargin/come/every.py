"""What is come to with every margin: exact moves, and the closures of rounds that are touched."""
from anymargin.base.checks import is_from_to, is_row
from anymargin.clock.classes import borders_of, has_class_form
from anymargin.come.loops import knot_corners, knot_faces, knot_nodes, round_stands
from anymargin.come.plain import WAIT, check_node, first_node, found_from, has_node_form, is_move, move_rows, moves_by
from anymargin.come.plain import next_layer, node_behind, node_in, row_to
from anymargin.come.points import come_on, first_points, plan_of
from anymargin.come.within import MOST_M, check_ask, is_table, least_walk, table_of
from anymargin.errors import InvalidChain, Refused, TooMany
from anymargin.machine.machines import check_machine, loose_round

MOST_LINKS = 20000


def check_tight(machine):
    """Refuses a machine with a loose round."""
    found = loose_round(machine)
    if found is not None:
        raise Refused(("loose",) + found)


def round_at(machine, node):
    """A round of a node, None if it has none."""
    check_machine(machine)
    check_node(machine, node)
    return shortest_round(machine, node)


def shortest_round(machine, node):
    """What `round_at` tells, without checks: a round with the fewest moves."""
    clocks = tuple(range(machine.clocks))
    # Each row of moves of a tight machine that leads back puts back each clock: none has to be told apart.
    begin = (node, clocks if loose_round(machine) is not None else ())
    found = {begin: None}
    layer = [begin]
    rows = move_rows(machine)
    for _ in range(MOST_LINKS):
        further = []
        for state in layer:
            for move, behind in states_from(machine, rows, state):
                if behind == (node, ()):
                    return row_to(found, state) + (move,)
                if behind not in found:
                    found[behind] = (state, move)
                    further.append(behind)
        if not further:
            return None
        layer = further
    return None


def states_from(machine, rows, state):
    """The list of (move, state behind it): a state is a node, and the clocks that have still to be put back."""
    node, lacking = state
    return [(move, (behind, still_lacking(machine, lacking, move))) for move, behind in moves_by(rows, node)]


def still_lacking(machine, lacking, move):
    """The clocks of some that a move does not put back."""
    if move == WAIT:
        return lacking
    resets = machine.doors[move[1]][2]
    return tuple([clock for clock in lacking if clock not in resets])


def is_round(machine, node, value):
    """Whether the value is a round of the node."""
    check_machine(machine)
    check_node(machine, node)
    return does_go_round(machine, node, value)


def does_go_round(machine, node, value):
    """What `is_round` tells, without checks of the machine and the node."""
    if not isinstance(value, tuple) or not 1 <= len(value) <= MOST_LINKS:
        return False
    now = node
    lacking = tuple(range(machine.clocks))
    for move in value:
        if not is_move(machine, move):
            return False
        now = node_behind(machine, now, move)
        if now is None:
            return False
        lacking = still_lacking(machine, lacking, move)
    return now == node and lacking == ()


def points_with_every(machine):
    """The pair of what whole readings are come to with every margin, for each room, and of the knots that are touched.

    What is come to with every margin is made of whole closures. So a class on a round is touched just if one of its
    corners is come to; and all classes of its knot are then, one after the other.
    """
    plan = plan_of(machine)
    points = first_points(machine, plan)
    left = [(knot, knot_corners(machine.rooms, knot)) for knot in round_stands(machine)]
    touched = []
    more = True
    while more:
        new = [pair for pair in left if are_touched(pair[1], points)]
        left = [pair for pair in left if pair not in new]
        touched.extend([knot for knot, corners in new])
        for knot, corners in new:
            for room in range(machine.rooms):
                points[room] |= corners[room]
            come_on(plan, points, [room for room in range(machine.rooms) if corners[room]])
        more = bool(new)
    return (points, touched)


def are_touched(corners, points):
    """Whether some of the corners is one of the points, told as bits for each room."""
    return any([bits & held for bits, held in zip(corners, points)])


def touching(knots, closures):
    """For each node that touches rounds the list of the classes, in its room, on rounds that it is a border of.

    The borders of each class are put to the closures.
    """
    rows = {}
    for room, cls in [node for nodes in sorted([knot_nodes(knot) for knot in knots]) for node in nodes]:
        if cls not in closures:
            closures[cls] = borders_of(cls)
        for border in closures[cls]:
            rows.setdefault((room, border), []).append(cls)
    return rows


def found_by_rounds(machine, knots, wanted):
    """For each node come to with every margin, up to one of the wanted room, the pair (node ahead, link).

    It is None for the first one. A link of a round lacks its moves. Links of rounds, of the knots that are touched, are
    taken only if no moves lead on: so there are few.
    """
    closures = {}
    rounds = touching(knots, closures)
    begin = first_node(machine)
    found = {begin: None}
    taken = {}
    layer = [begin]
    rows = move_rows(machine)
    while layer:
        reached = come_along(rows, found, layer)
        if wanted in [room for room, cls in reached]:
            return found
        layer = []
        for node in reached:
            for cls in rounds.get(node, []):
                if (node[0], cls) not in taken:
                    taken[(node[0], cls)] = True
                    layer.extend(spread(found, node, cls, closures[cls]))
    return found


def come_along(rows, found, begins):
    """The list of the begins and of all nodes that moves find from them."""
    reached = list(begins)
    layer = begins
    while layer:
        layer = next_layer(rows, found, layer)
        reached.extend(layer)
    return reached


def spread(found, node, cls, closure):
    """The list of the nodes that are found in the closure of a class on a round, by way of a node that touches it."""
    room = node[0]
    goals = [border for border in closure if (room, border) not in found]
    for goal in goals:
        found[(room, goal)] = (node, ("round", cls, goal))
    return [(room, goal) for goal in goals]


def every_nodes(machine):
    """The ascending tuple of the nodes come to with every margin."""
    check_machine(machine)
    check_tight(machine)
    begin = first_node(machine)
    found = {begin: None}
    rows = move_rows(machine)
    come_along(rows, found, [begin])
    more = []
    for room, cls in [node for knot in points_with_every(machine)[1] for node in knot_faces(knot)]:
        for border in borders_of(cls):
            if (room, border) not in found:
                found[(room, border)] = None
                more.append((room, border))
    come_along(rows, found, more)
    return tuple(sorted(list(found)))


def comes_with_every(machine, room):
    """Whether the room is come to with every margin."""
    check_ask(machine, room)
    check_tight(machine)
    return is_come_to(machine, room) or points_with_every(machine)[0][room] > 0


def is_come_to(machine, room):
    """Whether the room is come to exactly."""
    return first_points(machine, plan_of(machine))[room] > 0


def is_chain(machine, value):
    """Whether the value is a chain of the machine."""
    check_machine(machine)
    return end_of(machine, value) is not None


def end_of(machine, value):
    """The node behind a chain, None if the value is none."""
    if not isinstance(value, tuple) or len(value) > MOST_LINKS:
        return None
    node = first_node(machine)
    for link in value:
        node = node_behind_link(machine, node, link)
        if node is None:
            return None
    return node


def node_behind_link(machine, node, link):
    """The node behind a link, None if it is not let."""
    if is_move(machine, link):
        return node_behind(machine, node, link)
    if not is_row(4, link) or link[0] != "round":
        return None
    room, now = node
    _, cls, moves, goal = link
    if not has_node_form(machine, (room, cls)) or not has_class_form(machine.clocks, goal):
        return None
    closure = borders_of(cls)
    if now not in closure or goal not in closure or not does_go_round(machine, (room, cls), moves):
        return None
    return (room, goal)


def check_chain(machine, chain):
    """Refuses what is not a chain of the machine."""
    if end_of(machine, chain) is None:
        raise InvalidChain("not a chain of the machine")


def chain_end(machine, chain):
    """The node behind a chain."""
    check_machine(machine)
    check_chain(machine, chain)
    return end_of(machine, chain)


def chain_to(machine, room):
    """A chain whose last node has the room, None if there is none."""
    check_ask(machine, room)
    check_tight(machine)
    return found_chain(machine, room)


def found_chain(machine, room):
    """What `chain_to` tells, without checks."""
    if is_come_to(machine, room):
        found = found_from(machine, room)
    else:
        points, touched = points_with_every(machine)
        if not points[room]:
            return None
        found = found_by_rounds(machine, touched, room)
    node = node_in(found, room)
    chain = []
    while found[node] is not None:
        node, link = found[node]
        chain.append(whole_link(machine, node[0], link))
    return tuple(chain[::-1])


def whole_link(machine, room, link):
    """The link, in a room, with the moves that one of a round lacks."""
    if link[0] != "round":
        return link
    _, cls, goal = link
    return ("round", cls, shortest_round(machine, (room, cls)), goal)


def margin_answer(machine, room):
    """("every", chain) with a chain to the room, or ("margin", m, table) with the least m for which there is one."""
    check_ask(machine, room)
    check_tight(machine)
    chain = found_chain(machine, room)
    if chain is not None:
        return ("every", chain)
    return ("margin",) + least_answer(machine, room)


def least_answer(machine, room):
    """The pair (m, table) with the least m for which no run within 1/m comes to the room."""
    m, kept = least_walk(machine, room)
    if m is None:
        raise TooMany(MOST_M)
    return (m, table_of(machine, kept, m))


def is_margin_answer(machine, room, value):
    """Whether the value is any right answer: a chain to the room, or a table for the room and an m."""
    check_ask(machine, room)
    if is_row(2, value):
        return value[0] == "every" and does_end_in(machine, room, value[1])
    if not is_row(3, value) or value[0] != "margin" or not is_from_to(value[1], 1, MOST_M):
        return False
    return is_table(machine, room, value[1], value[2])


def does_end_in(machine, room, value):
    """Whether the value is a chain whose last node has the room."""
    node = end_of(machine, value)
    return node is not None and node[0] == room

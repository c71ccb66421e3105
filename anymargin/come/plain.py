"""What is come to exactly: nodes, their moves, and runs of whole waits along them."""
from anymargin.base.checks import check_number, is_from_to, is_row
from anymargin.base.exact import ZERO
from anymargin.clock.classes import class_behind, class_put_back, classes_within, does_keep, has_class_form, raised
from anymargin.clock.corners import corners_of, leads
from anymargin.errors import InvalidOperation, Refused
from anymargin.machine.machines import asked_at, check_machine
from anymargin.machine.runs import MOST_STEPS, does_go, has_run_form, last_room

WAIT = ("wait",)


def does_fit_room(machine, room, cls):
    """Whether all points of the class keep the limits of the room."""
    return does_keep(cls, [(0, limit) for limit in machine.limits[room]])


def is_node(machine, value):
    """Whether the value is a node of the machine."""
    check_machine(machine)
    return has_node_form(machine, value)


def has_node_form(machine, value):
    """What `is_node` tells, without a check of the machine."""
    if not is_row(2, value) or not is_from_to(value[0], 0, machine.rooms - 1):
        return False
    return has_class_form(machine.clocks, value[1]) and does_fit_room(machine, value[0], value[1])


def check_node(machine, node):
    """Refuses what is not a node of the machine."""
    if not has_node_form(machine, node):
        raise InvalidOperation("not a node of the machine")


def first_node(machine):
    """The node at which one begins: room 0, all readings 0."""
    return (0, ((0,) * machine.clocks, (tuple(range(machine.clocks)),)))


def nodes_of(machine):
    """The ascending tuple of all nodes."""
    return tuple([(room, cls) for room in range(machine.rooms) for cls in classes_within(machine.limits[room])])


def is_move(machine, value):
    """Whether the value has the form of a move of the machine."""
    if is_row(2, value):
        return value[0] == "door" and is_from_to(value[1], 0, len(machine.doors) - 1)
    return value == WAIT


def clock_move(machine, move):
    """What a move does to the clocks: it waits, or puts some of them back."""
    return WAIT if move == WAIT else ("door", machine.doors[move[1]][2])


def node_behind(machine, node, move):
    """The node behind a move, None if it is not let."""
    room, cls = node
    goal = room
    if move == WAIT:
        behind = class_behind(cls)
        if behind is None:
            return None
    else:
        begin, guards, resets, goal = machine.doors[move[1]]
        if begin != room or not does_keep(cls, guards):
            return None
        behind = class_put_back(cls, resets)
    return (goal, behind) if does_fit_room(machine, goal, behind) else None


def move_rows(machine):
    """For each room the pair of its limits and of the list of (move, asked bounds, resets, goal) of its doors."""
    rows = [(limits, []) for limits in machine.limits]
    for index in range(len(machine.doors)):
        room, _, resets, goal = machine.doors[index]
        rows[room][1].append((("door", index), asked_at(machine, index), resets, goal))
    return rows


def moves_by(rows, node):
    """The list of the pairs (move, node behind it) of the moves that are let from a node, by `move_rows`."""
    room, (wholes, order) = node
    limits, doors = rows[room]
    first = order[0]
    found = []
    # In a class in which time goes by no clock is at its limit: so waiting is let.
    if not first:
        found.append((WAIT, (room, (raised(wholes, order[-1]), (order[-1],) + order[1:-1]))))
    elif not [clock for clock in first if wholes[clock] == limits[clock]]:
        found.append((WAIT, (room, (wholes, ((),) + order))))
    for move, asked, resets, goal in doors:
        if does_keep_all(wholes, first, asked):
            found.append((move, (goal, class_put_back(node[1], resets))))
    return found


def does_keep_all(wholes, first, asked):
    """Whether a class with these wholes, and these clocks at whole numbers, keeps a pair (low, high) for each clock."""
    for clock in range(len(wholes)):
        number = wholes[clock]
        low, high = asked[clock]
        if number < low or number > high or number == high and clock not in first:
            return False
    return True


def class_graph(machine):
    """The pair (nodes, graph): all nodes, and for each one the indices of those behind its moves."""
    check_machine(machine)
    return graph_of(machine)


def graph_of(machine):
    """What `class_graph` tells, without checks."""
    nodes = nodes_of(machine)
    places = {node: place for place, node in enumerate(nodes)}
    rows = move_rows(machine)
    graph = [tuple(sorted({places[behind] for move, behind in moves_by(rows, node)})) for node in nodes]
    return (nodes, tuple(graph))


def moved_node(machine, node, move):
    """The node behind a move, None if it is not let."""
    check_machine(machine)
    check_node(machine, node)
    if not is_move(machine, move):
        raise InvalidOperation("not a move of the machine")
    return node_behind(machine, node, move)


def run_along(machine, moves):
    """A run that needs no margin, waits whole numbers, and goes through the doors of the moves."""
    check_machine(machine)
    if not isinstance(moves, tuple) or len(moves) > MOST_STEPS or not all([is_move(machine, move) for move in moves]):
        raise InvalidOperation("not a tuple of moves of the machine")
    node = first_node(machine)
    for index in range(len(moves)):
        node = node_behind(machine, node, moves[index])
        if node is None:
            raise Refused(("move", index))
    return whole_run(machine, moves)


def whole_run(machine, moves):
    """What `run_along` tells, without checks: a corner leads to corners, which keep what the classes keep."""
    cls = first_node(machine)[1]
    corner = 0
    waiting = 0
    steps = []
    for move in moves:
        change = clock_move(machine, move)
        here = corners_of(cls)[corner]
        cls = class_put_back(cls, change[1]) if move != WAIT else class_behind(cls)
        corner, wait = leads(here, change, corners_of(cls))[0]
        waiting += wait
        if move != WAIT:
            steps.append(((waiting, 1), move[1]))
            waiting = 0
    return tuple(steps)


def next_layer(rows, found, layer):
    """The list of the nodes that moves find first from those of a layer, put into what was found."""
    further = []
    for node in layer:
        for move, behind in moves_by(rows, node):
            if behind not in found:
                found[behind] = (node, move)
                further.append(behind)
    return further


def found_from(machine, room):
    """For each node come to exactly the pair (node ahead, move), None for the first one; up to one in the room."""
    begin = first_node(machine)
    found = {begin: None}
    layer = [begin]
    rows = move_rows(machine)
    while layer and room not in [node[0] for node in layer]:
        layer = next_layer(rows, found, layer)
    return found


def node_in(found, room):
    """The first node of the room that was found, None if there is none."""
    for node in found:
        if node[0] == room:
            return node
    return None


def row_to(found, node):
    """The tuple of the moves by which the node was found."""
    row = []
    while found[node] is not None:
        node, move = found[node]
        row.append(move)
    return tuple(row[::-1])


def plain_answer(machine, room):
    """("come", run) with a run that needs no margin, or ("never", nodes) with all nodes come to."""
    check_machine(machine)
    check_number(room, 0, machine.rooms - 1)
    found = found_from(machine, room)
    node = node_in(found, room)
    if node is None:
        return ("never", tuple(sorted(list(found))))
    return ("come", whole_run(machine, row_to(found, node)))


def is_plain_answer(machine, room, value):
    """Whether the value is any right answer: a run that needs no margin, or a closed lot of nodes."""
    check_machine(machine)
    check_number(room, 0, machine.rooms - 1)
    if not is_row(2, value):
        return False
    if value[0] == "come":
        return is_exact_run(machine, room, value[1])
    return value[0] == "never" and is_closed_lot(machine, room, value[1])


def is_exact_run(machine, room, value):
    """Whether the value is a run that needs no margin, and comes to the room."""
    if not has_run_form(machine, value) or last_room(machine, value) != room:
        return False
    return does_go(machine, value, ZERO)


def is_closed_lot(machine, room, value):
    """Whether the value is an ascending tuple of nodes, none of the room, that no move leaves, with the first one."""
    if not isinstance(value, tuple) or not all([has_node_form(machine, node) for node in value]):
        return False
    if not all([node < further for node, further in zip(value, value[1:])]):
        return False
    lot = set(value)
    if first_node(machine) not in lot or any([node[0] == room for node in value]):
        return False
    rows = move_rows(machine)
    return all([behind in lot for node in value for move, behind in moves_by(rows, node)])


def rooms_come_to(machine):
    """The ascending tuple of the rooms that are come to exactly."""
    check_machine(machine)
    return tuple(sorted({room for room, cls in found_from(machine, None)}))

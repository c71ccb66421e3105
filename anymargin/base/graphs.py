"""Graphs: for each node the ascending tuple of its followers; ways, closed lots, rounds and knots."""
from anymargin.base.checks import are_numbers, is_ascending, is_row
from anymargin.errors import InvalidGraph, InvalidNumber, InvalidOperation

MOST_NODES = 20000


def is_graph(value):
    """Whether the value is a graph."""
    if not isinstance(value, tuple) or len(value) > MOST_NODES:
        return False
    return all([is_ascending(len(value), row) for row in value])


def check_graph(graph):
    """Refuses a value that is no graph."""
    if not is_graph(graph):
        raise InvalidGraph("not a graph")


def check_nodes(graph, lot):
    """Refuses a value that is no ascending tuple of nodes."""
    if not is_ascending(len(graph), lot):
        raise InvalidOperation("not an ascending tuple of nodes")


def come_to(graph, begins):
    """The ascending tuple of all nodes to which ways lead from the begins."""
    check_graph(graph)
    check_nodes(graph, begins)
    return reached(graph, begins)


def reached(graph, begins):
    """What `come_to` tells, without checks."""
    steps = steps_from(graph, begins)
    return tuple([node for node in range(len(graph)) if steps[node] is not None])


def steps_from(graph, begins):
    """For each node how many steps a shortest way from the begins has, None without a way."""
    steps = [None] * len(graph)
    for node in begins:
        steps[node] = 0
    layer = list(begins)
    many = 0
    while layer:
        many += 1
        further = []
        for node in layer:
            for follower in graph[node]:
                if steps[follower] is None:
                    steps[follower] = many
                    further.append(follower)
        layer = further
    return steps


def turned(graph):
    """The turned graph."""
    check_graph(graph)
    return rows_back(graph)


def rows_back(graph):
    """What `turned` tells, without checks."""
    rows = [[] for _ in graph]
    for node in range(len(graph)):
        for follower in graph[node]:
            rows[follower].append(node)
    return tuple([tuple(row) for row in rows])


def way_answer(graph, begins, goals):
    """("way", way) with the least shortest way, or ("closed", lot) with all that is come to."""
    check_graph(graph)
    check_nodes(graph, begins)
    check_nodes(graph, goals)
    steps = steps_from(rows_back(graph), goals)
    begin = nearest(begins, steps)
    if begin is None:
        return ("closed", reached(graph, begins))
    return ("way", descent(graph, begin, steps))


def nearest(nodes, steps):
    """The least one of the nodes with the fewest steps to go, None if there is no way."""
    found = None
    for node in nodes:
        if steps[node] is not None and (found is None or steps[node] < steps[found]):
            found = node
    return found


def descent(graph, begin, steps):
    """The least way from the begin that has one step less to go at each node."""
    way = [begin]
    while steps[way[-1]] > 0:
        way.append(nearest(graph[way[-1]], steps))
    return tuple(way)


def has_follower(graph, node, wanted):
    """Whether one node is a follower of the other one: the row ascends, so halves are left out."""
    row = graph[node]
    low = 0
    high = len(row)
    while low < high:
        middle = (low + high) // 2
        if row[middle] < wanted:
            low = middle + 1
        else:
            high = middle
    return low < len(row) and row[low] == wanted


def is_way(graph, value):
    """Whether the value is a way."""
    check_graph(graph)
    return does_lead(graph, value)


def does_lead(graph, value):
    """What `is_way` tells, without a check of the graph."""
    if not isinstance(value, tuple) or not value or not are_numbers(len(value), 0, len(graph) - 1, value):
        return False
    return all([has_follower(graph, node, follower) for node, follower in zip(value, value[1:])])


def is_closed(graph, value):
    """Whether the value is an ascending tuple of the nodes of a closed lot."""
    check_graph(graph)
    return does_stay(graph, value)


def does_stay(graph, value):
    """What `is_closed` tells, without a check of the graph."""
    if not is_ascending(len(graph), value):
        return False
    lot = set(value)
    return all([follower in lot for node in value for follower in graph[node]])


def is_round(graph, value):
    """Whether the value is a round."""
    check_graph(graph)
    return does_lead(graph, value) and has_follower(graph, value[-1], value[0])


def is_way_answer(graph, begins, goals, value):
    """Whether the value is any right answer: a way from a begin to a goal, or a closed lot."""
    check_graph(graph)
    check_nodes(graph, begins)
    check_nodes(graph, goals)
    if not is_row(2, value):
        return False
    if value[0] == "way":
        return does_lead(graph, value[1]) and value[1][0] in begins and value[1][-1] in goals
    return value[0] == "closed" and does_stay(graph, value[1]) and does_part(begins, goals, value[1])


def does_part(begins, goals, lot):
    """Whether the lot has all begins and no goal."""
    held = set(lot)
    return all([node in held for node in begins]) and not any([node in held for node in goals])


def knots(graph):
    """The tuple of the knots, by ascending first nodes."""
    check_graph(graph)
    lots = [lot for lot in linked_lots(graph) if len(lot) > 1 or has_follower(graph, lot[0], lot[0])]
    return tuple(sorted(lots))


def linked_lots(graph):
    """All lots of nodes between which ways lead both ways, also those of one node that is on no round."""
    back = rows_back(graph)
    taken = [False] * len(graph)
    lots = []
    for node in reversed(left_order(graph)):
        if not taken[node]:
            lots.append(taken_back(back, node, taken))
    return lots


def left_order(graph):
    """All nodes in the sequence in which walks, each as deep as it goes, leave them for good."""
    places = [0] * len(graph)
    seen = [False] * len(graph)
    order = []
    for begin in range(len(graph)):
        stack = [] if seen[begin] else [begin]
        seen[begin] = True
        while stack:
            node = stack[-1]
            if places[node] == len(graph[node]):
                order.append(stack.pop())
            else:
                follower = graph[node][places[node]]
                places[node] += 1
                if not seen[follower]:
                    seen[follower] = True
                    stack.append(follower)
    return order


def taken_back(back, begin, taken):
    """The ascending tuple of the nodes, not yet taken, that lead to the begin: they are taken now."""
    taken[begin] = True
    stack = [begin]
    lot = []
    while stack:
        node = stack.pop()
        lot.append(node)
        for ahead in back[node]:
            if not taken[ahead]:
                taken[ahead] = True
                stack.append(ahead)
    return tuple(sorted(lot))


def round_through(graph, node):
    """The least shortest round that begins with the node, None if there is none."""
    check_graph(graph)
    if not is_ascending(len(graph), (node,)):
        raise InvalidNumber(node)
    steps = steps_from(rows_back(graph), (node,))
    second = nearest(graph[node], steps)
    if second is None:
        return None
    # The row behind the node ends with the node itself.
    return (node,) + descent(graph, second, steps)[:-1]

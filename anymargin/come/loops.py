"""Classes on rounds of tight machines, found from those just behind doors: a stand is (room, size, spots).

A class with so many groups of equal rests, its size, has a spot for each clock: through how many classes it has come
since it was 0. As time goes by, all spots grow by one; a reading is a whole number just if its spot is a multiple of
twice the size. All spots are even if a clock is at a whole number, otherwise all are odd.
"""
from anymargin.base.graphs import linked_lots
from anymargin.come.points import bit_of
from anymargin.machine.machines import asked_at, room_graph

# For none, one and two rests above 0 all rows of ranks: which is greater, or whether they are equal.
RANKS = (((),), ((1,),), ((1, 1), (1, 2), (2, 1)))


def rooms_round(machine):
    """For each room the number of its lot: rooms that lead to one another have the same one."""
    lots = linked_lots(room_graph(machine))
    return {room: at for at in range(len(lots)) for room in lots[at]}


def round_doors(machine):
    """For each room the list of (asked bounds, clocks left, goal) of the doors from it that can be on rounds."""
    lots = rooms_round(machine)
    rows = [[] for _ in range(machine.rooms)]
    for index in range(len(machine.doors)):
        room, _, resets, goal = machine.doors[index]
        if lots[room] == lots[goal]:
            left = tuple([clock for clock in range(machine.clocks) if clock not in resets])
            rows[room].append((asked_at(machine, index), left, goal))
    return rows


def begins_of(machine, rows):
    """The list of the stands behind doors that put back some clock: each round of a tight machine has one of them."""
    found = None
    for clock in range(machine.clocks):
        doors = [(asked, left, goal) for row in rows for asked, left, goal in row if clock not in left]
        begins = sorted({stand for door in doors for stand in stands_behind_door(machine.clocks, door)})
        if found is None or len(begins) < len(found):
            found = begins
    return found


def stands_behind_door(clocks, door):
    """The list of all stands that can be behind a door, by its bounds of the clocks that are left."""
    asked, left, goal = door
    found = []
    for halves in half_rows([asked[clock] for clock in left]):
        odd = [at for at in range(len(left)) if halves[at] % 2 == 1]
        for ranks in RANKS[len(odd)]:
            rests = [0] * len(left)
            for at, rank in zip(odd, ranks):
                rests[at] = rank
            found.append(stand_with(clocks, goal, left, [half // 2 for half in halves], rests))
    return found


def half_rows(pairs):
    """All rows that have for each pair (low, high) a number of halves from low to high."""
    rows = [()]
    for low, high in pairs:
        rows = [row + (half,) for row in rows for half in range(2 * low, 2 * high + 1)]
    return rows


def stand_with(clocks, room, left, wholes, rests):
    """The stand in which the clocks that are left have these wholes and ranks of rests, and the others are at 0."""
    size = 1 + max(rests, default=0)
    spots = [0] * clocks
    for clock, number, rank in zip(left, wholes, rests):
        spots[clock] = 2 * (size * number + rank)
    return (room, size, tuple(spots))


def stands_from(rows, stand):
    """The list of (stand behind a door, last step of waiting with which it is come to) from a stand."""
    room, size, spots = stand
    unit = 2 * size
    found = []
    for asked, left, goal in rows[room]:
        first = max([0] + [unit * low - spot for (low, high), spot in zip(asked, spots)])
        last = min([unit * high - spot for (low, high), spot in zip(asked, spots)])
        if first > last:
            continue
        if not left:
            found.append(((goal, 1, (0,) * len(spots)), last))
        elif len(left) == 1:
            found.extend(stands_with_one(stand, left[0], goal, first, last))
        else:
            found.extend(stands_with_more(stand, left, goal, first, last))
    return found


def stands_with_one(stand, clock, goal, first, last):
    """What `stands_from` tells of a door that puts back all clocks but one, gone through from the first step on."""
    room, size, spots = stand
    found = []
    step = first
    while step <= last:
        number, rest = divmod(spots[clock] + step, 2 * size)
        # The class behind stays the same from one whole number to the next one.
        end = step if rest == 0 else min(last, step + 2 * size - rest - 1)
        row = [0] * len(spots)
        row[clock] = 2 * number if rest == 0 else 4 * number + 2
        found.append(((goal, 1 if rest == 0 else 2, tuple(row)), end))
        step = end + 1
    return found


def stands_with_more(stand, left, goal, first, last):
    """What `stands_from` tells of a door that leaves several clocks as they are."""
    room, size, spots = stand
    unit = 2 * size
    found = {}
    for step in range(first, last + 1):
        if len(left) == len(spots):
            behind = (goal, size, tuple([spot + step for spot in spots]))
        else:
            rests = [(spots[clock] + step) % unit for clock in left]
            levels = [0] + [rest for rest in sorted(set(rests)) if rest > 0]
            wholes = [(spots[clock] + step) // unit for clock in left]
            behind = stand_with(len(spots), goal, left, wholes, [levels.index(rest) for rest in rests])
        found[behind] = step
    return list(found.items())


def round_stands(machine):
    """The list of knots, each a list of (stand, last step): all classes from the stand up to the step are on rounds."""
    rows = round_doors(machine)
    places = {}
    stands = begins_of(machine, rows)
    for stand in stands:
        places[stand] = len(places)
    ways = []
    at = 0
    while at < len(stands):
        found = stands_from(rows, stands[at])
        for behind, last in found:
            if behind not in places:
                places[behind] = len(places)
                stands.append(behind)
        ways.append([(places[behind], last) for behind, last in found])
        at += 1
    return knots_among(stands, ways)


def knots_among(stands, ways):
    """What `round_stands` tells, from the stands and the ways between them, told by their places."""
    lots = linked_lots([[goal for goal, step in row] for row in ways])
    homes = {place: at for at in range(len(lots)) for place in lots[at]}
    knots = []
    for lot in lots:
        knot = []
        for place in lot:
            lasts = [last for behind, last in ways[place] if homes[behind] == homes[place]]
            if lasts:
                knot.append((stands[place], max(lasts)))
        if knot:
            knots.append(knot)
    return knots


def faces_of(knot):
    """The list of (room, size, spots) of classes of a knot of which all of its classes are borders."""
    found = []
    for (room, size, spots), last in knot:
        # A class at a whole number is a border of the next one, and of the one ahead.
        first = 1 - spots[0] % 2
        for step in range(first if first <= last else 0, last + 1, 2):
            found.append((room, size, [spot + step for spot in spots]))
    return found


def knot_faces(knot):
    """The list of nodes of a knot of whose classes all of its classes are borders, room by room."""
    return [(room, class_at(size, spots)) for room, size, spots in faces_of(knot)]


def knot_corners(rooms, knot):
    """For each of so many rooms the bits of all corners of the classes of a knot."""
    found = [0] * rooms
    for room, size, spots in faces_of(knot):
        found[room] |= corner_bits(size, spots)
    return found


def corner_bits(size, spots):
    """The bits of the corners of the class with these spots."""
    unit = 2 * size
    readings = [spot // unit for spot in spots]
    rests = [spot % unit for spot in spots]
    bits = bit_of(readings)
    for level in reversed(sorted(set(rests))):
        if level > 0:
            readings = [number + 1 if rest == level else number for number, rest in zip(readings, rests)]
            bits |= bit_of(readings)
    return bits


def knot_nodes(knot):
    """The ascending list of the nodes of a knot."""
    nodes = {}
    for (room, size, spots), last in knot:
        for step in range(last + 1):
            nodes[(room, class_at(size, [spot + step for spot in spots]))] = True
    return sorted(nodes)


def class_at(size, spots):
    """The class with these spots."""
    unit = 2 * size
    rests = [spot % unit for spot in spots]
    levels = [0] + [rest for rest in sorted(set(rests)) if rest > 0]
    order = [tuple([clock for clock in range(len(rests)) if rests[clock] == level]) for level in levels]
    return (tuple([spot // unit for spot in spots]), tuple(order))

"""Corners of the closures of classes, and where they lead."""
from anymargin.base.checks import check_number, is_ascending, is_row
from anymargin.base.exact import ZERO, sum_of
from anymargin.base.fractions import are_weights
from anymargin.clock.classes import check_class, check_readings, class_behind, class_put_back, raised, readings_at
from anymargin.clock.classes import rests_by, rises
from anymargin.errors import InvalidOperation, Refused


def corners(cls):
    """The tuple of the corners of the closure."""
    check_class(cls)
    return corners_of(cls)


def corners_of(cls):
    """What `corners` tells, without checks."""
    wholes, order = cls
    found = [wholes]
    for group in reversed(order[1:]):
        found.append(raised(found[-1], group))
    return tuple(found)


def parts(cls, readings):
    """The tuple of the weights of the corners, None outside of the closure."""
    check_class(cls)
    check_readings(len(cls[0]), readings)
    rests = rests_by(cls, readings)
    if rests is None:
        return None
    return tuple(rises(rests)[::-1])


def point(cls, weights):
    """The readings with these weights of the corners."""
    check_class(cls)
    check_weights(cls, weights)
    rests = [weights[-1]]
    for weight in reversed(weights[1:-1]):
        rests.append(sum_of(rests[-1], weight))
    return readings_at(cls, rests)


def check_weights(cls, weights):
    """Refuses what is not a weight for each corner."""
    if not are_weights(weights) or len(weights) != len(cls[1]):
        raise InvalidOperation("not weights of the corners")


def check_move(cls, move):
    """Refuses what is not a move of readings of the class."""
    if move != ("wait",) and not is_putting_back(len(cls[0]), move):
        raise InvalidOperation("not a move")


def is_putting_back(clocks, move):
    """Whether the move is a door that puts some of so many clocks back."""
    return is_row(2, move) and move[0] == "door" and is_ascending(clocks, move[1])


def class_moved(cls, move):
    """The moved class, for a move that is right; it is refused if there is none."""
    if move != ("wait",):
        return class_put_back(cls, move[1])
    found = class_behind(cls)
    if found is None:
        raise Refused(("end",))
    return found


def moved(cls, move):
    """The class to which the readings of the class move."""
    check_class(cls)
    check_move(cls, move)
    return class_moved(cls, move)


def corner_moves(cls, move):
    """For each corner the ascending tuple of the pairs (corner, wait) to which it leads."""
    goals = corners_of(moved(cls, move))
    return tuple([leads(corner, move, goals) for corner in corners_of(cls)])


def leads(corner, move, goals):
    """The ascending tuple of the pairs (goal, wait) to which the move leads the corner."""
    waits = (0, 1) if move == ("wait",) else (0,)
    steps = [(goal, wait) for goal in range(len(goals)) for wait in waits]
    return tuple([(goal, wait) for goal, wait in steps if corner_behind(corner, move, wait) == goals[goal]])


def corner_behind(corner, move, wait):
    """The readings to which the move leads the corner with the wait."""
    if move == ("wait",):
        return tuple([number + wait for number in corner])
    return tuple([0 if clock in move[1] else corner[clock] for clock in range(len(corner))])


def lead(cls, move, weights):
    """The pair (wait, weights of the moved class) by the first pair to which each corner leads."""
    check_class(cls)
    check_move(cls, move)
    check_weights(cls, weights)
    sums = [ZERO] * len(class_moved(cls, move)[1])
    total = ZERO
    for weight, pairs in zip(weights, corner_moves(cls, move)):
        goal, wait = pairs[0]
        sums[goal] = sum_of(sums[goal], weight)
        if wait == 1:
            total = sum_of(total, weight)
    return (total, tuple(sums))


def back_corners(cls, move, corner):
    """The ascending tuple of the corners that lead to a corner of the moved class."""
    rows = corner_moves(cls, move)
    check_number(corner, 0, len(class_moved(cls, move)[1]) - 1)
    return tuple([at for at in range(len(rows)) if corner in [goal for goal, wait in rows[at]]])

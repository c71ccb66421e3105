"""Doors whose taking away gives a margin: each chain to a room is cut, or a chain is left."""
from itertools import combinations

from anymargin.base.checks import check_number, is_ascending, is_from_to, is_row
from anymargin.come.every import check_chain, check_tight, does_end_in, found_chain, least_answer
from anymargin.come.within import MOST_M, check_ask, is_table
from anymargin.errors import InvalidOperation
from anymargin.machine.machines import check_machine, without_doors

MOST_TAKEN = 2


def check_lot(machine, lot):
    """Refuses what is not an ascending tuple of doors of the machine."""
    if not is_ascending(len(machine.doors), lot):
        raise InvalidOperation("not an ascending tuple of doors of the machine")


def does_mend(machine, room, lot):
    """Whether the room has a margin in the machine without the doors of the lot."""
    check_ask(machine, room)
    check_lot(machine, lot)
    check_tight(machine)
    return chain_without(machine, room, lot) is None


def chain_without(machine, room, lot):
    """A chain to the room through none of the doors of the lot, None if there is none."""
    if not lot:
        return found_chain(machine, room)
    chain = found_chain(without_doors(machine, lot), room)
    if chain is None:
        return None
    names = [door for door in range(len(machine.doors)) if door not in lot]
    return tuple([named_link(link, names) for link in chain])


def named_link(link, names):
    """The link, or move, with each door by its name."""
    if link[0] == "door":
        return ("door", names[link[1]])
    if link[0] == "round":
        return ("round", link[1], tuple([named_link(move, names) for move in link[2]]), link[3])
    return link


def doors_through(chain):
    """The ascending tuple of the doors through which the links of a chain go."""
    moves = [link for link in chain if link[0] == "door"]
    moves.extend([move for link in chain if link[0] == "round" for move in link[2] if move[0] == "door"])
    return tuple(sorted({move[1] for move in moves}))


def least_mends(machine, room):
    """The ascending tuple of all least lots of at most two doors that mend the room."""
    check_ask(machine, room)
    check_tight(machine)
    chains = {}
    if is_cut(machine, room, (), chains):
        return ((),)
    singles = mending_singles(machine, room, chains)
    return tuple(sorted(singles + mending_pairs(machine, room, chains)))


def is_cut(machine, room, lot, chains):
    """Whether the lot mends the room; a chain that shows the opposite is put to the others, by its lot."""
    chain = chain_without(machine, room, lot)
    if chain is not None:
        chains[lot] = chain
    return chain is None


def mending_singles(machine, room, chains):
    """The list of the lots of one door that mend, if () does not: the door is on each chain."""
    lots = [(door,) for door in doors_through(chains[()])]
    return [lot for lot in lots if is_cut(machine, room, lot, chains)]


def mending_pairs(machine, room, chains):
    """The list of the least lots of two doors that mend, if () does not and the single doors have been tried.

    One of both is on the chain of (), and the other one on the chain that is left without it.
    """
    found = {}
    for door in doors_through(chains[()]):
        others = doors_through(chains[(door,)]) if (door,) in chains else ()
        for other in others:
            lot = (min(door, other), max(door, other))
            # A door on the chain of () without a chain of its own mends alone: the lot is not a least one then.
            alone = other in doors_through(chains[()]) and (other,) not in chains
            if not alone and lot not in found:
                found[lot] = is_cut(machine, room, lot, chains)
    return [lot for lot in found if found[lot]]


def mend_answer(machine, room, most):
    """("mend", lot, m, table), or ("none", rows) with a chain for each lot of just so many doors."""
    check_ask(machine, room)
    check_number(most, 0, MOST_TAKEN)
    check_tight(machine)
    chains = {}
    lot = fewest_doors(machine, room, most, chains)
    if lot is not None:
        return ("mend",) + (lot,) + least_answer(without_doors(machine, lot), room)
    return ("none", tuple([(lot, chain_beside(machine, room, lot, chains)) for lot in lots_tried(machine, most)]))


def fewest_doors(machine, room, most, chains):
    """The mending lot of the fewest doors, of these the least one; None if there is none of at most so many doors."""
    if is_cut(machine, room, (), chains):
        return ()
    lots = mending_singles(machine, room, chains) if most > 0 else []
    if not lots and most > 1:
        lots = mending_pairs(machine, room, chains)
    return min(lots, default=None)


def lots_tried(machine, most):
    """The ascending list of the lots of so many doors, or of all doors if there are fewer."""
    return lots_of_doors(len(machine.doors), min(most, len(machine.doors)))


def lots_of_doors(doors, many):
    """The ascending list of all lots of so many of the doors."""
    return list(combinations(range(doors), many))


def chain_beside(machine, room, lot, chains):
    """A chain to the room through no door of a lot that does not mend: one of those that were found, if one fits."""
    for less in [()] + [(door,) for door in lot]:
        if less in chains and not any([door in lot for door in doors_through(chains[less])]):
            return chains[less]
    return chain_without(machine, room, lot)


def is_mend_answer(machine, room, most, value):
    """Whether the value is any right answer: a mending lot with m and a table, or a chain for each lot."""
    check_ask(machine, room)
    check_number(most, 0, MOST_TAKEN)
    check_tight(machine)
    if is_row(2, value):
        return value[0] == "none" and are_rows_left(machine, room, lots_tried(machine, most), value[1])
    if not is_row(4, value) or value[0] != "mend" or not is_from_to(value[2], 1, MOST_M):
        return False
    lot = value[1]
    if not is_ascending(len(machine.doors), lot) or len(lot) > most:
        return False
    return is_table(without_doors(machine, lot), room, value[2], value[3])


def are_rows_left(machine, room, lots, value):
    """Whether the value has a pair (lot, chain) for each of the lots: a chain to the room through none of its doors."""
    if not is_row(len(lots), value) or not all([is_row(2, row) for row in value]):
        return False
    for lot, (told, chain) in zip(lots, value):
        # In Python's order True is 1: so what is told is looked at by itself.
        if not is_ascending(len(machine.doors), told) or told != lot or not does_end_in(machine, room, chain):
            return False
        if any([door in lot for door in doors_through(chain)]):
            return False
    return True


def chain_doors(machine, chain):
    """The ascending tuple of the doors through which the links of a chain go, rounds too."""
    check_machine(machine)
    check_chain(machine, chain)
    check_tight(machine)
    return doors_through(chain)

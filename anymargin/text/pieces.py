"""Pieces of lines: integers, fractions, clocks, bounds and moves. What is not written as told is read as None."""
from anymargin.base.fractions import MOST_DIGITS, is_fraction
from anymargin.come.plain import WAIT


def read_number(piece):
    """The integer that a piece tells, None if it is not written as told."""
    figures = piece[1:] if piece.startswith("-") else piece
    if len(figures) > MOST_DIGITS or not figures.isascii() or not figures.isdigit():
        return None
    number = int(piece)
    return number if str(number) == piece else None


def read_numbers(piece, sign):
    """The tuple of the integers between which a sign stands, None if they are not written as told."""
    numbers = tuple([read_number(part) for part in piece.split(sign)])
    return None if None in numbers else numbers


def write_fraction(one):
    """The piece of a fraction."""
    return str(one[0]) if one[1] == 1 else f"{one[0]}/{one[1]}"


def read_fraction(piece):
    """The fraction that a piece tells, None if it is not written as told."""
    numbers = read_numbers(piece, "/")
    if numbers is None or len(numbers) > 2:
        return None
    one = numbers if len(numbers) == 2 else numbers + (1,)
    return one if is_fraction(one) and write_fraction(one) == piece else None


def joined_numbers(numbers):
    """Some integers with a comma between them."""
    return ",".join([str(number) for number in numbers])


def write_clocks(clocks):
    """The piece of a tuple of clocks."""
    return joined_numbers(clocks) if clocks else "-"


def read_clocks(piece):
    """The tuple of clocks that a piece tells, None if it is not written as told."""
    return () if piece == "-" else read_numbers(piece, ",")


def write_pair(pair):
    """The piece of the bounds of a clock."""
    return f"{pair[0]}..{pair[1]}"


def read_pair(piece):
    """The bounds of a clock that a piece tells, None if it is not written as told."""
    return read_numbers(piece, "..")


def write_move(move):
    """The piece of a move of a round."""
    return "w" if move == WAIT else str(move[1])


def read_moves(piece):
    """The tuple of the moves that a piece tells, None if it is not written as told."""
    moves = [WAIT if part == "w" else ("door", read_number(part)) for part in piece.split(".")]
    return None if ("door", None) in moves else tuple(moves)


def write_bound(bound):
    """The piece of a bound of a zone."""
    return "*" if bound is None else str(bound)


def are_bounds_written(pieces):
    """Whether all pieces are written as bounds of a zone."""
    return all([piece == "*" or read_number(piece) is not None for piece in pieces])


def read_bounds(pieces, size):
    """The tuple of so many rows of bounds that the pieces tell, which are written as bounds."""
    bounds = [None if piece == "*" else read_number(piece) for piece in pieces]
    return tuple([tuple(bounds[size * row:size * row + size]) for row in range(size)])

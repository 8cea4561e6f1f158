"""The squares of heights that have one furthest quotient.

A quotient with the heights (a, b) that agrees with a row at a + b + 1 + side places and no further is the furthest
at the heights (a + i, b + j) just where neither i nor j is above side.
"""

from farquotient.equations import furthest
from farquotient.numbers import is_whole
from farquotient.partings import slope
from farquotient.quotients import agrees, heights


def block_of(row, m, n):
    """The tuple (a, b, side) of the square in which (m, n) lies; None for the nought quotient.

    The side is None where the quotient agrees with the whole row; refused where the row is too short.
    """
    one = furthest(row, m, n)
    a, b = heights(one)
    if a == -1:
        return None
    places = agrees(row, one)
    if places == len(row):
        return (a, b, None)
    return (a, b, places - a - b - 1)


def table(row):
    """The list, for m from 0, of lists of the furthest quotients, for n from 0, as far as the row has places."""
    columns = [[] for place in row]
    # The quotients of heights with one sum come all at once, of so many first places as that sum needs.
    for places in range(1, len(row) + 1):
        for high, low, one in slope(row[:places]):
            for m in range(low, high + 1):
                columns[m].append(one)
    return columns


def blocks(row):
    """The list of tuples (a, b, side, quotient) of all furthest quotients but nought, rising by a, then b."""
    columns = table(row)
    told = []
    for a, column in enumerate(columns):
        for b, one in enumerate(column):
            # Each quotient but nought is the furthest at its own heights, too, and there it is told.
            if heights(one) == (a, b):
                told.append((a, b, side_of(columns, a, b), one))
    return told


def side_of(columns, a, b):
    """The side of the square that begins at (a, b); None where it ends nowhere in the table."""
    side = 0
    while a + side + b + 1 < len(columns):
        if columns[a + side + 1][b] != columns[a][b]:
            return side
        side += 1
    return None


def shows_blocks(row, thing):
    """Whether a thing is the list that blocks tells of a row, or a tuple, of tuples or lists."""
    if not isinstance(thing, (list, tuple)):
        return False
    told = blocks(row)
    if len(thing) != len(told):
        return False
    return all([is_block(one, other) for one, other in zip(told, thing)])


def is_block(told, thing):
    """Whether a thing is a told tuple (a, b, side, quotient), or a list of the same."""
    if not isinstance(thing, (list, tuple)) or list(thing) != list(told):
        return False
    # True is 1 to Python, so where all is alike the kinds are still to be looked at.
    a, b, side, (top, below) = thing
    if side is not None and not is_whole(side):
        return False
    return is_whole(a) and is_whole(b) and all([is_whole(each) for one in top + below for each in one])

"""The quotient of told heights that agrees furthest with a row, found by equations.

Below times the row has noughts at the places m + 1 to m + n where its numbers answer these n equations; the
places up to m are the top's.
"""

from farquotient.fields import FractionField, WholeNumbers, trimmed
from farquotient.numbers import NOUGHT, is_number, least_below, tops_over
from farquotient.quotients import agrees, heights, is_quotient
from farquotient.rows import check_places, number_at, settled, weighed


def furthest(row, m, n):
    """The quotient of heights (m, n) that agrees with a row at the most places; refused where it is too short."""
    check_places(row, m, n)
    used = row[: m + n + 1]
    share = least_below(used)
    top, below = least_pair(WholeNumbers(), tops_over(share, used), m, n)
    # The pair is that of the row taken share times.
    return settled(top, below, share)


def least_pair(field, row, m, n):
    """The pair (top, below) that answers the equations with a below of the least degree.

    So top and below have no factor in common but powers of x.
    """
    equations = []
    for place in range(m + 1, m + n + 1):
        equations.append([number_at(field, row, place - step) for step in range(n + 1)])
    below = least_answer(field, equations)
    top = [weighed(field, below, row, place) for place in range(m + 1)]
    return (trimmed(field.nought, top), below)


def least_answer(field, equations):
    """The fewest weights of the first unknowns, the last one not nought, that bring each equation to nought.

    There is one unknown more than there are equations, so that there are such weights.
    """
    column, share = 0, field.unit
    at = leader(field, equations, column)
    while at is not None:
        ahead, behind = equations[:column], equations[column:at] + equations[at + 1 :]
        first = equations[at]
        equations = ahead + [first] + [cleared(field, first, each, column, share) for each in behind]
        column, share = column + 1, first[column]
        at = leader(field, equations, column)
    return weights_back(field, equations, column, share)


def leader(field, equations, column):
    """Which one of the equations from number column on has a number but nought at column; None where none has."""
    for at in range(column, len(equations)):
        if equations[at][column] != field.nought:
            return at
    return None


def cleared(field, first, other, column, share):
    """Other taken first's number at column times, less first taken other's times, parted by share.

    Share is the number by which the step ahead cleared; it goes into all of these.
    """
    row = []
    for one, each in zip(first, other):
        grown = field.lessened(field.multiplied(first[column], each), field.multiplied(other[column], one))
        row.append(field.divided(grown, share))
    return row


def weights_back(field, equations, many, last):
    """The weights of the first unknowns, last being that of number many, from the equations cleared so far."""
    weights = [field.nought] * many + [last]
    for at in reversed(range(many)):
        behind = field.nought
        for column in range(at + 1, many + 1):
            behind = field.added(behind, field.multiplied(equations[at][column], weights[column]))
        weights[at] = field.divided(field.lessened(field.nought, behind), equations[at][at])
    return weights


def spare(one, m, n):
    """By how much a quotient's heights could grow together and stay within (m, n)."""
    high, low = heights(one)
    if high == -1:
        return n
    return min(m - high, n - low)


def shows_furthest(row, m, n, thing):
    """Whether a thing is the furthest quotient of heights (m, n)."""
    if not is_quotient(thing):
        return False
    high, low = heights(thing)
    if high > m or low > n:
        return False
    return agrees(row, thing) >= m + n + 1 - spare(thing, m, n)


def never_paper(row, m, n, many):
    """Weights of equations that show that no quotient of heights (m, n) agrees at so many places; None if one does."""
    # What stands behind the row's end is asked by no equation up to place many - 1.
    longer = list(row) + [NOUGHT] * (m + n + 1 - len(row))
    one = furthest(longer, m, n)
    place = agrees(longer, one)
    if place >= many:
        return None
    # Below times the row is nought at the n places ahead of this one, but not here, so its numbers will do.
    below = one[1]
    return tuple([number_at(FractionField(), below, place - at) for at in range(m + 1, many)])


def shows_never(row, m, n, many, paper):
    """Whether a thing is a tuple or list of such weights as never_paper tells."""
    if not isinstance(paper, (tuple, list)) or len(paper) != many - 1 - m:
        return False
    if not all([is_number(each) for each in paper]):
        return False
    field = WholeNumbers()
    # Whether a sum is nought stays the same where all weights or all numbers of the row are taken some times.
    weights = tops_over(least_below(paper), paper)
    wholes = tops_over(least_below(row), row)
    # Weighed goes down the row from place many - 1 - j, so the last weight has to stand ahead.
    sums = [weighed(field, weights[::-1], wholes, many - 1 - step) for step in range(n + 1)]
    return sums[0] != 0 and all([each == 0 for each in sums[1:]])

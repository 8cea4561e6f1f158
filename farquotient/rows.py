"""What quotients share with the ways to find them: rows, and how quotients stand to them.

A row is a list (or tuple) of numbers; below place 0 it has noughts. What is handed in as a field tells which
numbers these are.
"""

from farquotient.errors import TooShort
from farquotient.numbers import number


def check_places(row, m, n):
    """Refuses a row that has too few places for quotients of heights (m, n)."""
    if len(row) < m + n + 1:
        raise TooShort(f"{len(row)} places are too few for heights {m} and {n}")


def number_at(field, row, place):
    """A row's number at a place; noughts stand below place 0 and behind its end."""
    if 0 <= place < len(row):
        return row[place]
    return field.nought


def weighed(field, weights, row, place):
    """The sum of weight j times the row's number at place - j."""
    total = field.nought
    for step, weight in enumerate(weights):
        total = field.added(total, field.multiplied(weight, number_at(field, row, place - step)))
    return total


def row_in(field, top, below, many):
    """The list of the first numbers of the row that top by below has, below's number 0 being 1."""
    row = []
    for place in range(many):
        behind = weighed(field, below[1:], row, place - 1)
        row.append(field.lessened(number_at(field, top, place), behind))
    return row


def agreement_in(field, row, top, below):
    """At how many first places below times a row is top, which is where the row is that of top by below."""
    for place in range(len(row)):
        if weighed(field, below, row, place) != number_at(field, top, place):
            return place
    return len(row)


def settled(top, below, share):
    """The quotient that top by below, taken share times, is, both of whole numbers.

    They have powers of x alone in common, so the noughts that stand ahead in below stand ahead in top, too.
    """
    ahead = 0
    while below[ahead] == 0:
        ahead += 1
    least = below[ahead]
    return (
        tuple([number(each, least * share) for each in top[ahead:]]),
        tuple([number(each, least) for each in below[ahead:]]),
    )

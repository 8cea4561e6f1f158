"""Rows, quotients and the furthest of them with the numbers of a prime, the whole numbers from 0 to p - 1."""

from farquotient.equations import least_pair
from farquotient.errors import NoQuotient
from farquotient.fields import PrimeField, brought_by, common_in, parted_in
from farquotient.menders import Mender, top_with
from farquotient.rows import agreement_in, check_places, row_in


def brought(p, numbers):
    """The list of a list's numbers as numbers of a prime; None where the prime goes into a below."""
    return brought_by(p, numbers)


def quotient_by(p, top, below):
    """The quotient that top by below is; refused where it has none."""
    field = PrimeField(p)
    if len(below) == 0:
        raise NoQuotient("the below is nought")
    factor = common_in(field, top, below)
    top, below = parted_in(field, top, factor)[0], parted_in(field, below, factor)[0]
    if below[0] == 0:
        raise NoQuotient("the below's number 0 is nought")
    return settled_by(field, top, below)


def settled_by(field, top, below):
    """The quotient that top by below is, where they have powers of x alone in common, as many as stand in below."""
    ahead = 0
    while below[ahead] == field.nought:
        ahead += 1
    least = below[ahead]
    return (
        tuple([field.divided(each, least) for each in top[ahead:]]),
        tuple([field.divided(each, least) for each in below[ahead:]]),
    )


def row_by(p, one, many):
    """The list of the first numbers of a quotient's row."""
    top, below = one
    return row_in(PrimeField(p), top, below, many)


def agrees_by(p, row, one):
    """At how many first places a row is as a quotient's."""
    top, below = one
    return agreement_in(PrimeField(p), row, top, below)


def furthest_by(p, row, m, n):
    """The quotient of heights (m, n) that agrees with a row at the most places; refused where it is too short."""
    check_places(row, m, n)
    field = PrimeField(p)
    top, below = least_pair(field, row, m, n)
    return settled_by(field, top, below)


def shortest_by(p, row):
    """The pair of the least n for which a quotient of heights (n - 1, n) agrees with a row, and this one or None."""
    field = PrimeField(p)
    mender = Mender(field, -1)
    for places in range(1, len(row) + 1):
        mender.grow(row[:places])
    n = mender.height()
    if not mender.is_sure(len(row)):
        return (n, None)
    return (n, settled_by(field, top_with(field, mender.below, row, n), mender.below))

"""Quotients: pairs (top, below) of polynomials without a common factor, below's number 0 being 1."""

from farquotient.errors import NoQuotient, Pole
from farquotient.fields import WholeNumbers
from farquotient.numbers import (
    NOUGHT,
    UNIT,
    greatest_divisor,
    least_below,
    number,
    over,
    to_power,
    tops_over,
)
from farquotient.polys import common, degree, is_poly, parted, value_at
from farquotient.rows import agreement_in, row_in


def is_quotient(thing):
    """Whether a thing is a quotient: a tuple of two polynomials, both as told above."""
    if not isinstance(thing, tuple) or len(thing) != 2:
        return False
    top, below = thing
    if not is_poly(top) or not is_poly(below):
        return False
    return len(below) > 0 and below[0] == UNIT and degree(common(top, below)) == 0


def quotient_of(top, below):
    """The quotient that top by below is; refused where it has none."""
    if len(below) == 0:
        raise NoQuotient("the below is nought")
    factor = common(top, below)
    if degree(factor) > 0:
        top, below = parted(top, factor)[0], parted(below, factor)[0]
    if below[0] == NOUGHT:
        raise NoQuotient("the below's number 0 is nought")
    return (
        tuple([over(each, below[0]) for each in top]),
        tuple([over(each, below[0]) for each in below]),
    )


def heights(one):
    """The pair of the degrees of a quotient's top and below."""
    top, below = one
    return (degree(top), degree(below))


def value(one, x):
    """A quotient's value at x, a number; refused where its below is nought there."""
    top, below = one
    share = value_at(below, x)
    if share == NOUGHT:
        raise Pole("the below is nought there")
    return over(value_at(top, x), share)


def row_of(one, many):
    """The list of the first numbers of a quotient's row."""
    top, below = one
    share, step = least_below(top), least_below(below)
    # The row's number at a place is whole when taken share times, and step times for each place up to it.
    wholes = row_in(WholeNumbers(), stretched(top, share, step), stretched(below, 1, step), many)
    return [lowest(whole, share, step, place) for place, whole in enumerate(wholes)]


def stretched(one, share, step):
    """The whole numbers of a polynomial, each taken share times, and step times for each power of x."""
    wholes = []
    for top, below in one:
        wholes.append(top * share // below)
        share *= step
    return wholes


def lowest(top, share, step, many):
    """The number that top is, parted by share once and by step so many times."""
    # Divisors are sought in step and not in its power, which may be too great to do so in good time.
    top, below = number(top, share)
    divisor = greatest_divisor(top, step)
    while many > 0 and divisor > 1:
        top, below, many = top // divisor, below * (step // divisor), many - 1
        divisor = greatest_divisor(top, step)
    return (top, below * to_power(step, many))


def agrees(row, one):
    """At how many first places a row is as a quotient's."""
    top, below = one
    share, part = least_below(list(top) + list(below)), least_below(row)
    return agreement_in(
        WholeNumbers(), tops_over(part, row), tops_over(share * part, top), tops_over(share, below)
    )

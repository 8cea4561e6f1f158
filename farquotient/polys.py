"""Polynomials: tuples of numbers, those of x to the power 0, 1, 2 and so on, the last one not nought."""

from farquotient.fields import (
    FractionField,
    PrimeField,
    brought_by,
    common_in,
    less_in,
    parted_in,
    product_in,
    sum_in,
    trimmed,
    value_in,
)
from farquotient.numbers import (
    NOUGHT,
    UNIT,
    divisor_of,
    is_number,
    least_below,
    number,
    times,
    to_power,
    tops_over,
)

GREAT_PRIME = 2305843009213693951


def is_poly(thing):
    """Whether a thing is a polynomial: a tuple of numbers whose last one isn't nought."""
    if not isinstance(thing, tuple):
        return False
    if not all([is_number(each) for each in thing]):
        return False
    return len(thing) == 0 or thing[-1] != NOUGHT


def poly(numbers):
    """The polynomial of a list of numbers; noughts at its end fall off."""
    return trimmed(NOUGHT, numbers)


def degree(one):
    """The highest power of x in a polynomial, -1 of nought."""
    return len(one) - 1


def poly_sum(one, other):
    """The sum of two polynomials."""
    return sum_in(FractionField(), one, other)


def poly_less(one, other):
    """One polynomial less the other."""
    return less_in(FractionField(), one, other)


def poly_product(one, other):
    """The product of two polynomials."""
    return product_in(FractionField(), one, other)


def value_at(one, x):
    """The value of a polynomial at x, a number."""
    return value_in(FractionField(), one, x)


def parted(one, other):
    """The pair (how often, rest): one is how often times other and rest, the rest of a lesser degree than other."""
    return parted_in(FractionField(), one, other)


def slopes_of(one):
    """The polynomial of the slopes of a polynomial."""
    return poly([times((power, 1), each) for power, each in enumerate(one)][1:])


def common(one, other):
    """The greatest common factor of two polynomials, its last number 1; nought of two noughts."""
    if surely_apart(one, other):
        return (UNIT,)
    high, low = plain_wholes(one), plain_wholes(other)
    if len(high) < len(low):
        high, low = low, high
    factor = last_rest(high, low)
    return poly([number(each, factor[-1]) for each in factor])


def surely_apart(one, other):
    """Whether the numbers of a great prime show two polynomials to have no common factor.

    Most that have none are shown so, but not all, and none that have one.
    """
    left, right = brought_by(GREAT_PRIME, one), brought_by(GREAT_PRIME, other)
    if not left or not right:
        return False
    # A common factor stays of its degree, and common, as long as the prime takes away no last number.
    if left[-1] == 0 or right[-1] == 0:
        return False
    return len(common_in(PrimeField(GREAT_PRIME), left, right)) == 1


def plain_wholes(one):
    """The whole numbers, without a common divisor, that stand to one another as a polynomial's numbers do."""
    wholes = tops_over(least_below(one), one)
    divisor = divisor_of(wholes)
    return tuple([each // divisor for each in wholes])


def last_rest(high, low):
    """The last rest but nought where high is parted by low, low by the rest and so on, all of whole numbers.

    High is of no lesser degree than low.
    """
    # Each rest's numbers are known ahead to have the divisor below in common (these are the subresultants).
    lead, scale = 1, 1
    while low:
        drop = len(high) - len(low)
        divisor = lead * to_power(scale, drop)
        rest = whole_parted(high, low)[1]
        high, low = low, tuple([each // divisor for each in rest])
        lead = high[-1]
        if drop > 0:
            scale = to_power(lead, drop) // to_power(scale, drop - 1)
    return high


def whole_parted(high, low):
    """The pair (how often, rest) of high parted by low, both of whole numbers.

    High is taken low's last number times for each step, so that all stays whole; there are as many steps as
    high's degree less low's and 1, or none.
    """
    often, rest = [], list(high)
    for shift in reversed(range(len(high) - len(low) + 1)):
        weight = rest.pop()
        often = [weight] + [each * low[-1] for each in often]
        rest = [each * low[-1] for each in rest]
        for place in range(len(low) - 1):
            rest[shift + place] -= weight * low[place]
    return (tuple(often), trimmed(0, rest))

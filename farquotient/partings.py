"""The quotient of told heights that agrees furthest with a row, found by parting step by step.

For a row of N places x to the power N is parted by the row's polynomial, that by the rest, and so on. Each rest
is, but for some times x to the power N, the row's polynomial taken some polynomial times; so rest by that one
agrees with the row, and it is the furthest where the rest's degree first is low enough.
"""

from farquotient.fields import WholeNumbers, less_in, product_in, trimmed
from farquotient.numbers import divisor_of, least_below, number, over, times, to_power, tops_over
from farquotient.polys import whole_parted
from farquotient.rows import check_places, settled


def by_parting(row, m, n):
    """The quotient of heights (m, n) that agrees with a row at the most places; refused where it is too short."""
    check_places(row, m, n)
    used = row[: m + n + 1]
    share = least_below(used)
    older, newer = first_pairs(tops_over(share, used))
    while len(newer[0]) > m + 1:
        older, newer = newer, next_pair(older, newer)
    return settled(newer[0], newer[1], share)


def slope(row):
    """The list of tuples (high, low, quotient) of the furthest quotients of heights (m, N - 1 - m), by falling m."""
    share = least_below(row)
    older, newer = first_pairs(tops_over(share, row))
    high, told = len(row) - 1, []
    while high >= 0:
        low = max(len(newer[0]) - 1, 0)
        told.append((high, low, settled(newer[0], newer[1], share)))
        if low > 0:
            older, newer = newer, next_pair(older, newer)
        high = low - 1
    return told


def first_pairs(wholes):
    """The first two pairs (rest, how often the row's polynomial is in it) of a row of whole numbers."""
    power = [0] * len(wholes) + [1]
    return ((power, ()), (trimmed(0, wholes), (1,)))


def next_pair(older, newer):
    """The pair behind two neighbours, its numbers brought to the least ones that stand so to one another."""
    field = WholeNumbers()
    often, rest = whole_parted(older[0], newer[0])
    grown = product_in(field, [to_power(newer[0][-1], len(often))], older[1])
    weight = less_in(field, grown, product_in(field, often, newer[1]))
    divisor = divisor_of(weight + rest)
    return (tuple([each // divisor for each in rest]), tuple([each // divisor for each in weight]))


def partings(one, other):
    """The list of how often other goes in one, the rest in other, the next rest in that one, to the last."""
    told = []
    share, high = with_share(one)
    part, low = with_share(other)
    # In truth high is taken ratio times as often as low; the shares of both alone would grow much greater.
    ratio = over(share, part)
    while low:
        often, rest = whole_parted(high, low)
        grown = (to_power(low[-1], len(often)), 1)
        told.append(taken(often, over(ratio, grown)))
        divisor = divisor_of(rest)
        if rest:
            ratio = over(over(grown, (divisor, 1)), ratio)
        high, low = low, tuple([each // divisor for each in rest])
    return told


def with_share(one):
    """The pair (share, wholes) of a polynomial: whole numbers without a common divisor, and how often to take them."""
    below = least_below(one)
    wholes = tops_over(below, one)
    divisor = divisor_of(wholes)
    return (number(divisor, below), tuple([each // divisor for each in wholes]))


def taken(wholes, share):
    """The polynomial of whole numbers taken share times."""
    return tuple([times((each, 1), share) for each in wholes])

"""Rules: pairs (weights, begin), by which a row's number is a sum of weighed numbers ahead of it, from begin on."""

from farquotient.equations import furthest
from farquotient.fields import WholeNumbers
from farquotient.numbers import NOUGHT, UNIT, least_below, minus, number, tops_over
from farquotient.partings import slope
from farquotient.quotients import agrees, row_of
from farquotient.rows import weighed


def obeys(row, rule):
    """Whether a row obeys a rule at all its places from begin on."""
    weights, begin = rule
    share = least_below(weights)
    # Both sides are taken as often as makes all of them whole, which leaves them alike or unlike.
    wholes, parts = tops_over(least_below(row), row), tops_over(share, weights)
    field = WholeNumbers()
    places = list(range(begin, len(row)))
    return all([wholes[place] * share == weighed(field, parts, wholes, place - 1) for place in places])


def rule_of(one):
    """The rule that a quotient's row obeys."""
    top, below = one
    return (turned(below[1:]), len(top))


def turned(numbers):
    """The tuple of numbers, each taken from nought."""
    return tuple([minus(NOUGHT, each) for each in numbers])


def gone_on(row, rule, many):
    """The list of the first many places of a row, cut or gone on by a rule, wherever that begins."""
    weights, begin = rule
    # Top by below is a row that is as told at the places of top, and obeys the rule from there on.
    below = (UNIT,) + turned(weights)
    share, part = least_below(below), least_below(row)
    parts, wholes = tops_over(share, below), tops_over(part, row)
    field = WholeNumbers()
    top = [number(weighed(field, parts, wholes, place), share * part) for place in range(len(row))]
    return row_of((top, below), many)


def found_rule(row, m, n):
    """The rule of the furthest quotient where it agrees with the whole row, else None; refused where too short."""
    one = furthest(row, m, n)
    if agrees(row, one) < len(row):
        return None
    return rule_of(one)


def least_rule(row):
    """The first found rule by the least n, then the least m, that leaves a place to spare; None where there is none."""
    # A quotient that agrees with the whole row is the furthest at all heights from its own on, and so, if any leave
    # a place to spare, at one of the greatest that do; these are gone through here by rising n.
    for high, low, one in slope(row[:-1]):
        if agrees(row, one) == len(row):
            return rule_of(one)
    return None

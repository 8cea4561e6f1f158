"""Where polynomials have roots, told by bounds, and so where quotients have no value.

How many roots lie between two numbers is told by a chain of polynomials: one without its manifold roots, its slopes,
and from there on each time what the last but one leaves by the last, taken from nought. How often the signs along
the chain change falls by one at each root, and nowhere else.
"""

from farquotient.numbers import before, divisor_of, is_number, minus, number
from farquotient.polys import common, parted, plain_wholes, slopes_of, whole_parted


def roots_between(one, low, high):
    """How many unlike roots a polynomial has above low and up to high."""
    chain = chain_of(one)
    return changes_at(chain, low) - changes_at(chain, high)


def chain_of(one):
    """The chain of a polynomial, all of whole numbers, with no common factor left between neighbours."""
    factor = common(one, slopes_of(one))
    first = plain_wholes(parted(one, factor)[0])
    chain = [first]
    newer = tuple([power * each for power, each in enumerate(first)][1:])
    while newer:
        older = chain[-1]
        chain.append(newer)
        newer = turned_rest(older, newer)
    return chain


def turned_rest(high, low):
    """What high leaves by low, taken from nought, and parted by a number above nought that leaves it whole."""
    rest = whole_parted(high, low)[1]
    divisor = divisor_of(rest)
    # High was taken low's last number times for each step, so an odd number of steps may have turned the sign.
    if low[-1] > 0 or (len(high) - len(low)) % 2 == 1:
        divisor = -divisor
    return tuple([each // divisor for each in rest])


def changes_at(chain, x):
    """How often the signs of a chain's values at x change, noughts passed over."""
    values = [whole_value(one, x) for one in chain]
    signs = [each > 0 for each in values if each != 0]
    return len([place for place in range(1, len(signs)) if signs[place] != signs[place - 1]])


def whole_value(one, x):
    """The value of a polynomial of whole numbers at x, times x's below as often as makes it whole."""
    top, below = x
    value, power = 0, 1
    for each in reversed(one):
        value = value * top + each * power
        power *= below
    return value


def outer_bound(one):
    """A whole number that all roots of a polynomial of whole numbers are less than, with or without a minus."""
    greatest = max([abs(each) for each in one])
    return greatest // abs(one[-1]) + 2


def roots_in_all(chain):
    """How many unlike roots a chain's first polynomial has."""
    bound = outer_bound(chain[0])
    return changes_at(chain, (-bound, 1)) - changes_at(chain, (bound, 1))


def root_bounds(one, wide):
    """The list of rising pairs (low, high), none wider than wide, with one root each above low and up to high."""
    chain = chain_of(one)
    bound = outer_bound(chain[0])
    # Each part is told by its ends, and by how often the signs change there.
    parts = [((-bound, 1), changes_at(chain, (-bound, 1)), (bound, 1), changes_at(chain, (bound, 1)))]
    told = []
    while parts:
        low, left, high, right = parts.pop()
        if left - right == 1 and not before(wide, minus(high, low)):
            told.append((low, high))
        elif left > right:
            middle = number(low[0] * high[1] + high[0] * low[1], 2 * low[1] * high[1])
            between = changes_at(chain, middle)
            # The last part is looked at next, so the lower one goes there, for the pairs to rise.
            parts.extend([(middle, between, high, right), (low, left, middle, between)])
    return told


def shows_roots(one, wide, thing):
    """Whether a thing is a list or tuple of such pairs as root_bounds tells, these tuples or lists."""
    if not isinstance(thing, (list, tuple)) or not all([is_bound(each, wide) for each in thing]):
        return False
    for place in range(1, len(thing)):
        if before(thing[place][0], thing[place - 1][1]):
            return False
    chain = chain_of(one)
    # No two of the parts share a root, so where each has just one, there is none else if there are as many in all.
    if not all([changes_at(chain, low) - changes_at(chain, high) == 1 for low, high in thing]):
        return False
    return len(thing) == roots_in_all(chain)


def is_bound(thing, wide):
    """Whether a thing is a pair of numbers, the first below the second and by no more than wide."""
    if not isinstance(thing, (list, tuple)) or len(thing) != 2:
        return False
    low, high = thing
    if not is_number(low) or not is_number(high) or not before(low, high):
        return False
    return not before(wide, minus(high, low))


def poles(one, wide):
    """Such pairs of a quotient's below, at whose roots the quotient has no value."""
    return root_bounds(one[1], wide)

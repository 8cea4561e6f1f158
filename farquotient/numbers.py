"""Numbers: fractions in lowest terms, each a tuple (top, below) of whole numbers with below 1 or more."""

NOUGHT = (0, 1)
UNIT = (1, 1)
GREAT_BITS = 2000
SEEN_BITS = 160


def greatest_divisor(one, other):
    """The greatest common divisor of two whole numbers, nought of two noughts."""
    one, other = abs(one), abs(other)
    if one < other:
        one, other = other, one
    while other.bit_length() > GREAT_BITS:
        one, other = leapt(one, other)
    while other:
        one, other = other, one % other
    return one


def leapt(one, other):
    """Two whole numbers with the same divisors in common, many steps of parting further on, other being the lesser.

    The steps are those of the first bits alone, done at once with the whole numbers; one by one they would take
    several times as long. Some may be others than the whole numbers' own, but none adds or takes away a divisor.
    """
    shift = one.bit_length() - SEEN_BITS
    first, second = one >> shift, other >> shift
    half = 1 << (SEEN_BITS // 2)
    if second < half:
        return (other, one % other)
    high, low = first, second
    # High is a times first and some times second, and low is c times first and some times second.
    a, c = 1, 0
    while low >= half:
        often, rest = divmod(high, low)
        high, low = low, rest
        a, c = c, a - often * c
    b, d = (high - a * first) // second, (low - c * first) // second
    far, near = abs(a * one + b * other), abs(c * one + d * other)
    return (max(far, near), min(far, near))


def number(top, below):
    """The number that top by below is; below is not 0."""
    divisor = greatest_divisor(top, below)
    if below < 0:
        divisor = -divisor
    return (top // divisor, below // divisor)


def is_whole(thing):
    """Whether a thing is a whole number; True and False are none, though Python counts them as such."""
    return isinstance(thing, int) and not isinstance(thing, bool)


def is_number(thing):
    """Whether a thing is a number: a tuple of two whole numbers in lowest terms, the second 1 or more."""
    if not isinstance(thing, tuple) or len(thing) != 2:
        return False
    top, below = thing
    if not is_whole(top) or not is_whole(below):
        return False
    return below >= 1 and greatest_divisor(top, below) == 1


def plus(one, other):
    """The sum of two numbers."""
    return summed(one[0], one[1], other[0], other[1])


def minus(one, other):
    """One number less the other."""
    return summed(one[0], one[1], -other[0], other[1])


def summed(top, below, other_top, other_below):
    """The sum of two numbers, each told by its top and its below."""
    # Only what the belows have in common can be left to take out, so the whole sum needn't be looked at.
    shared = greatest_divisor(below, other_below)
    rest = below // shared
    total = top * (other_below // shared) + other_top * rest
    total, shared_left = number(total, shared)
    return (total, rest * (other_below // shared) * shared_left)


def times(one, other):
    """The product of two numbers."""
    # Each is in lowest terms, so only one's top and the other's below have something to take out.
    left, right = number(one[0], other[1]), number(other[0], one[1])
    return (left[0] * right[0], left[1] * right[1])


def over(one, other):
    """One number by the other, which isn't nought."""
    left, right = number(one[0], other[0]), number(other[1], one[1])
    return (left[0] * right[0], left[1] * right[1])


def before(one, other):
    """Whether one number is less than the other."""
    return one[0] * other[1] < other[0] * one[1]


def least_below(numbers):
    """The least whole number from 1 that the belows of all numbers of a list go into."""
    share = 1
    for top, below in numbers:
        share = share // greatest_divisor(share, below) * below
    return share


def tops_over(share, numbers):
    """The tops of a list's numbers, all brought to the below share, into which their own ones go."""
    return [top * (share // below) for top, below in numbers]


def divisor_of(wholes):
    """The greatest common divisor of a list of whole numbers, nought of noughts alone."""
    divisor = 0
    for each in wholes:
        divisor = greatest_divisor(divisor, each)
    return divisor


def to_power(base, exponent):
    """The whole number base to the power exponent, from 0."""
    power = 1
    for step in range(exponent):
        power *= base
    return power

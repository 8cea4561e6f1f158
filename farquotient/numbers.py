"""Numbers: fractions in lowest terms, each a tuple (top, below) of whole numbers with below 1 or more."""

NOUGHT = (0, 1)


def greatest_divisor(one, other):
    """The greatest common divisor of two whole numbers, nought of two noughts."""
    one, other = abs(one), abs(other)
    while other:
        one, other = other, one % other
    return one


def number(top, below):
    """The number that top by below is; below is not 0."""
    divisor = greatest_divisor(top, below)
    if below < 0:
        divisor = -divisor
    return (top // divisor, below // divisor)


def is_whole(thing):
    """Whether a thing is a whole number; True and False are none, though Python counts them as such."""
    return isinstance(thing, int) and not isinstance(thing, bool)


def is_number(thing):
    """Whether a thing is a number: a tuple of two whole numbers in lowest terms, the second 1 or more."""
    if not isinstance(thing, tuple) or len(thing) != 2:
        return False
    top, below = thing
    if not is_whole(top) or not is_whole(below):
        return False
    return below >= 1 and greatest_divisor(top, below) == 1


def plus(one, other):
    """The sum of two numbers."""
    return number(one[0] * other[1] + other[0] * one[1], one[1] * other[1])


def minus(one, other):
    """One number less the other."""
    return number(one[0] * other[1] - other[0] * one[1], one[1] * other[1])


def times(one, other):
    """The product of two numbers."""
    return number(one[0] * other[0], one[1] * other[1])


def over(one, other):
    """One number by the other, which isn't nought."""
    return number(one[0] * other[1], one[1] * other[0])


def before(one, other):
    """Whether one number is less than the other."""
    return one[0] * other[1] < other[0] * one[1]

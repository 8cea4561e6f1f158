"""The kinds of numbers, and how polynomials of each are reckoned.

A polynomial of a field is a tuple (or list) of its numbers, those of x to the power 0, 1, 2 and so on,
the last one not nought. The kinds differ in their sums, products and shares alone, so these are handed
in as a field, and all that is built on them is written once. Simplest tells numbers, not all of them nought, that
stand to one another as those of a row do, and are smaller where the kind knows how to make them so.
"""

from farquotient.numbers import NOUGHT, UNIT, divisor_of, minus, over, plus, times


class FractionField:
    """The numbers of numbers.py."""

    def __init__(self):
        self.nought = NOUGHT
        self.unit = UNIT

    def added(self, one, other):
        return plus(one, other)

    def lessened(self, one, other):
        return minus(one, other)

    def multiplied(self, one, other):
        return times(one, other)

    def divided(self, one, other):
        return over(one, other)

    def simplest(self, numbers):
        return tuple(numbers)


class PrimeField:
    """The whole numbers from 0 to prime - 1, reckoned by what is left behind parting by the prime."""

    def __init__(self, prime):
        self.prime = prime
        self.nought = 0
        self.unit = 1

    def added(self, one, other):
        return (one + other) % self.prime

    def lessened(self, one, other):
        return (one - other) % self.prime

    def multiplied(self, one, other):
        return (one * other) % self.prime

    def divided(self, one, other):
        return (one * inverse_by(self.prime, other)) % self.prime

    def simplest(self, numbers):
        return tuple(numbers)


class WholeNumbers:
    """The whole numbers, which have a share only where other goes into one.

    Fractions grow, and to keep them in lowest terms takes long; so what has to be reckoned in many steps is
    brought to one below, reckoned with the tops alone, and made fractions of at the end.
    """

    def __init__(self):
        self.nought = 0
        self.unit = 1

    def added(self, one, other):
        return one + other

    def lessened(self, one, other):
        return one - other

    def multiplied(self, one, other):
        return one * other

    def divided(self, one, other):
        return one // other

    def simplest(self, numbers):
        divisor = divisor_of(numbers)
        return tuple([each // divisor for each in numbers])


def inverse_by(prime, one):
    """The number of a prime that makes 1 times one, which isn't nought."""
    # At each step far times one leaves high behind parting by the prime, and near times one leaves low.
    high, low = prime, one
    far, near = 0, 1
    while low:
        often = high // low
        high, low = low, high - often * low
        far, near = near, far - often * near
    return far % prime


def brought_by(prime, numbers):
    """The list of a list's fractions as numbers of a prime; None where the prime goes into a below."""
    if any([below % prime == 0 for top, below in numbers]):
        return None
    return [(top * inverse_by(prime, below % prime)) % prime for top, below in numbers]


def trimmed(nought, row):
    """The tuple of a row's numbers without the noughts at its end."""
    many = len(row)
    while many > 0 and row[many - 1] == nought:
        many -= 1
    return tuple(row[:many])


def paired(field, one, other):
    """The list of pairs of two polynomials' numbers, place by place, with noughts beyond the end of either."""
    many = max(len(one), len(other))
    left = list(one) + [field.nought] * (many - len(one))
    right = list(other) + [field.nought] * (many - len(other))
    return list(zip(left, right))


def sum_in(field, one, other):
    """The sum of two polynomials of a field."""
    return trimmed(field.nought, [field.added(left, right) for left, right in paired(field, one, other)])


def less_in(field, one, other):
    """One polynomial of a field less the other."""
    return trimmed(field.nought, [field.lessened(left, right) for left, right in paired(field, one, other)])


def product_in(field, one, other):
    """The product of two polynomials of a field."""
    row = [field.nought] * (len(one) + len(other) - 1)
    for high, left in enumerate(one):
        for low, right in enumerate(other):
            row[high + low] = field.added(row[high + low], field.multiplied(left, right))
    return trimmed(field.nought, row)


def value_in(field, one, x):
    """The value of a polynomial of a field at x."""
    value = field.nought
    for each in reversed(one):
        value = field.added(field.multiplied(value, x), each)
    return value


def parted_in(field, one, other):
    """The pair (how often, rest) of one polynomial of a field parted by another, which isn't nought."""
    rest = list(one)
    steps = max(len(one) - len(other) + 1, 0)
    often = [field.nought] * steps
    for shift in reversed(range(steps)):
        weight = field.divided(rest[shift + len(other) - 1], other[-1])
        often[shift] = weight
        for place, each in enumerate(other):
            rest[shift + place] = field.lessened(rest[shift + place], field.multiplied(weight, each))
    return (trimmed(field.nought, often), trimmed(field.nought, rest))


def common_in(field, one, other):
    """The greatest common factor of two polynomials of a field, its last number 1; nought of two noughts."""
    while other:
        one, other = other, parted_in(field, one, other)[1]
    return tuple([field.divided(each, one[-1]) for each in one])

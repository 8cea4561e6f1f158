"""What the tests share: Python's own fractions as a yardstick, and rows of inputs that are always the same."""

import copy
import random
from fractions import Fraction


def fraction(number):
    """Python's fraction of a number (top, below)."""
    return Fraction(number[0], number[1])


def pair(value):
    """The number (top, below) of a fraction or a whole number."""
    value = Fraction(value)
    return (value.numerator, value.denominator)


def polynomial(*values):
    """The tuple of numbers of fractions or whole numbers, as they stand."""
    return tuple(pair(value) for value in values)


def fractions_of(one):
    return [fraction(number) for number in one]


def cut(values):
    values = list(values)
    while values and values[-1] == 0:
        values.pop()
    return values


def sum_of(one, other, sign=1):
    """The fractions of one and sign times other, reckoned here."""
    many = max(len(one), len(other))
    left = fractions_of(one) + [0] * (many - len(one))
    right = fractions_of(other) + [0] * (many - len(other))
    return polynomial(*cut([a + sign * b for a, b in zip(left, right)]))


def product_of(one, other):
    if not one or not other:
        return ()
    row = [Fraction(0)] * (len(one) + len(other) - 1)
    for i, left in enumerate(fractions_of(one)):
        for k, right in enumerate(fractions_of(other)):
            row[i + k] += left * right
    return polynomial(*cut(row))


def product_of_roots(*roots):
    """The polynomial with last number 1 and these roots."""
    one = polynomial(1)
    for root in roots:
        one = product_of(one, polynomial(-Fraction(root), 1))
    return one


def value_of(one, x):
    return sum((value * fraction(x) ** power for power, value in enumerate(fractions_of(one))), Fraction(0))


def rest_of(one, other):
    rest, other = fractions_of(one), fractions_of(other)
    while len(rest) >= len(other):
        weight, shift = rest[-1] / other[-1], len(rest) - len(other)
        for k, value in enumerate(other):
            rest[shift + k] -= weight * value
        rest = cut(rest)
    return polynomial(*rest)


def factor_of(one, other):
    """The greatest common factor by Euclid's way, last number 1."""
    while other:
        one, other = other, rest_of(one, other)
    return polynomial(*[value / fraction(one[-1]) for value in fractions_of(one)])


def some_fractions(seed, many, figures):
    """Fractions of up to so many figures above and below, above and below nought and nought itself."""
    chance = random.Random(seed)
    found = [Fraction(0), Fraction(1), Fraction(-1)]
    while len(found) < many:
        size = 10 ** chance.randint(1, figures)
        found.append(Fraction(chance.randrange(1 - size, size), chance.randrange(1, size)))
    return found


def some_polynomials(seed, many, highest, figures):
    """Polynomials up to the degree highest, nought and numbers alone among them."""
    chance = random.Random(seed)
    found = [(), polynomial(1), polynomial(Fraction(-2, 3)), polynomial(0, 0, 5)]
    while len(found) < many:
        values = chance.choices(some_fractions(chance.random(), 20, figures), k=chance.randint(1, highest + 1))
        found.append(polynomial(*cut(values)))
    found.append(polynomial(*(list(range(1, highest + 1)) + [Fraction(-3, 7)])))
    return found


def is_plain_number(thing):
    """Whether a thing is a number in every point of its form, looked at without the program."""
    return (
        type(thing) is tuple
        and len(thing) == 2
        and type(thing[0]) is int
        and type(thing[1]) is int
        and thing[1] >= 1
        and pair(Fraction(*thing)) == thing
    )


def is_plain_polynomial(thing):
    return type(thing) is tuple and all(is_plain_number(part) for part in thing) and (not thing or thing[-1][0] != 0)


# Neither numbers nor polynomials, of all the kinds that the checkers may be asked of.
NEITHER = (
    True, False, None, 0, 1, -7, 10**40, "", "1", "(1, 1)", "ab",
    [], [()], [[]], [1, 1], [1, 2], [(1, 1)], [(1, 1), (0, 1)], [[1, 1]],
    (1,), (1, 2, 3), (1, 1, 1), (0, 0), (1, 0), (-1, 0), (0, 2), (0, -1), (1, -1), (1, -2), (-1, -2), (2, 2), (2, 4),
    (-6, 4), (10**40, 10**39), (3 * 10**39 + 3, 9), (True, 1), (1, True), (False, 1), (0, True), (True, True),
    (None, 1), (1, None), (None, None), ("1", 1), (1, "1"), ("a", "b"), ([1], 1), (1, [1]), ((1,), 1), (1, (1,)),
    ((1, 1), 1), (1, (1, 1)), (None,), ("",), (True,), ((),), ((), ()), (((1, 1),),), ((((1, 1),),), (1, 1)),
    ((0, 1),), ((1, 1), (0, 1)), ((1, 1), (0, 1), (0, 1)), ((2, 2),), ((1, 1), (2, 4)), ((2, 4), (1, 1)),
    ((1, -1),), ((1, 0),), ((1, 1), (1, 0), (1, 1)), ((0, 2), (1, 1)), ((1, 1), (0, -1), (1, 1)),
    ((True, 1),), ((1, True),), ((1, 1), (1, True)), ((False, 1), (1, 1)), ((1, 1), True), (True, (1, 1)),
    ((1, 1), None), ((1, 1), "1"), ((1, 1), [1, 1]), ([1, 1],), ([1, 1], (1, 1)), ((1, 1), 1), ((1,), (1, 1)),
    ((1, 1, 1),), ((1, 1), (1, 1, 1)), ((1, 1), ()), ((1, "1"),), ((None, 1),), (("1", 1),),
)


def told_without_change(case, deed, *things):
    """What a deed tells of things; twice the same, and the things are as they were."""
    kept = copy.deepcopy(things)
    answer = deed(*things)
    case.assertEqual(repr(things), repr(kept))
    case.assertEqual(repr(deed(*things)), repr(answer))
    return answer

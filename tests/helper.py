"""What the tests share: Python's own fractions as a yardstick, and rows of inputs that are always the same."""

import copy
import random
from fractions import Fraction


def fraction(number):
    """Python's fraction of a number (top, below)."""
    return Fraction(number[0], number[1])


def pair(value):
    """The number (top, below) of a fraction or a whole number."""
    value = Fraction(value)
    return (value.numerator, value.denominator)


def polynomial(*values):
    """The tuple of numbers of fractions or whole numbers, as they stand."""
    return tuple(pair(value) for value in values)


def fractions_of(one):
    return [fraction(number) for number in one]


def cut(values):
    values = list(values)
    while values and values[-1] == 0:
        values.pop()
    return values


def sum_of(one, other, sign=1):
    """The fractions of one and sign times other, reckoned here."""
    many = max(len(one), len(other))
    left = fractions_of(one) + [0] * (many - len(one))
    right = fractions_of(other) + [0] * (many - len(other))
    return polynomial(*cut([a + sign * b for a, b in zip(left, right)]))


def product_of(one, other):
    if not one or not other:
        return ()
    row = [Fraction(0)] * (len(one) + len(other) - 1)
    for i, left in enumerate(fractions_of(one)):
        for k, right in enumerate(fractions_of(other)):
            row[i + k] += left * right
    return polynomial(*cut(row))


def product_of_roots(*roots):
    """The polynomial with last number 1 and these roots."""
    one = polynomial(1)
    for root in roots:
        one = product_of(one, polynomial(-Fraction(root), 1))
    return one


def value_of(one, x):
    return sum((value * fraction(x) ** power for power, value in enumerate(fractions_of(one))), Fraction(0))


def rest_of(one, other):
    rest, other = fractions_of(one), fractions_of(other)
    while len(rest) >= len(other):
        weight, shift = rest[-1] / other[-1], len(rest) - len(other)
        for k, value in enumerate(other):
            rest[shift + k] -= weight * value
        rest = cut(rest)
    return polynomial(*rest)


def factor_of(one, other):
    """The greatest common factor by Euclid's way, last number 1."""
    while other:
        one, other = other, rest_of(one, other)
    return polynomial(*[value / fraction(one[-1]) for value in fractions_of(one)])


def some_fractions(seed, many, figures):
    """Fractions of up to so many figures above and below, above and below nought and nought itself."""
    chance = random.Random(seed)
    found = [Fraction(0), Fraction(1), Fraction(-1)]
    while len(found) < many:
        size = 10 ** chance.randint(1, figures)
        found.append(Fraction(chance.randrange(1 - size, size), chance.randrange(1, size)))
    return found


def some_polynomials(seed, many, highest, figures):
    """Polynomials up to the degree highest, nought and numbers alone among them."""
    chance = random.Random(seed)
    found = [(), polynomial(1), polynomial(Fraction(-2, 3)), polynomial(0, 0, 5)]
    while len(found) < many:
        values = chance.choices(some_fractions(chance.random(), 20, figures), k=chance.randint(1, highest + 1))
        found.append(polynomial(*cut(values)))
    found.append(polynomial(*(list(range(1, highest + 1)) + [Fraction(-3, 7)])))
    return found


def is_plain_number(thing):
    """Whether a thing is a number in every point of its form, looked at without the program."""
    return (
        type(thing) is tuple
        and len(thing) == 2
        and type(thing[0]) is int
        and type(thing[1]) is int
        and thing[1] >= 1
        and pair(Fraction(*thing)) == thing
    )


def is_plain_polynomial(thing):
    return type(thing) is tuple and all(is_plain_number(part) for part in thing) and (not thing or thing[-1][0] != 0)


# Neither numbers nor polynomials, of all the kinds that the checkers may be asked of.
NEITHER = (
    True, False, None, 0, 1, -7, 10**40, "", "1", "(1, 1)", "ab",
    [], [()], [[]], [1, 1], [1, 2], [(1, 1)], [(1, 1), (0, 1)], [[1, 1]],
    (1,), (1, 2, 3), (1, 1, 1), (0, 0), (1, 0), (-1, 0), (0, 2), (0, -1), (1, -1), (1, -2), (-1, -2), (2, 2), (2, 4),
    (-6, 4), (10**40, 10**39), (3 * 10**39 + 3, 9), (True, 1), (1, True), (False, 1), (0, True), (True, True),
    (None, 1), (1, None), (None, None), ("1", 1), (1, "1"), ("a", "b"), ([1], 1), (1, [1]), ((1,), 1), (1, (1,)),
    ((1, 1), 1), (1, (1, 1)), (None,), ("",), (True,), ((),), ((), ()), (((1, 1),),), ((((1, 1),),), (1, 1)),
    ((0, 1),), ((1, 1), (0, 1)), ((1, 1), (0, 1), (0, 1)), ((2, 2),), ((1, 1), (2, 4)), ((2, 4), (1, 1)),
    ((1, -1),), ((1, 0),), ((1, 1), (1, 0), (1, 1)), ((0, 2), (1, 1)), ((1, 1), (0, -1), (1, 1)),
    ((True, 1),), ((1, True),), ((1, 1), (1, True)), ((False, 1), (1, 1)), ((1, 1), True), (True, (1, 1)),
    ((1, 1), None), ((1, 1), "1"), ((1, 1), [1, 1]), ([1, 1],), ([1, 1], (1, 1)), ((1, 1), 1), ((1,), (1, 1)),
    ((1, 1, 1),), ((1, 1), (1, 1, 1)), ((1, 1), ()), ((1, "1"),), ((None, 1),), (("1", 1),),
)


def told_without_change(case, deed, *things):
    """What a deed tells of things; twice the same, and the things are as they were."""
    kept = copy.deepcopy(things)
    answer = deed(*things)
    case.assertEqual(repr(things), repr(kept))
    case.assertEqual(repr(deed(*things)), repr(answer))
    return answer


def quotient(top, below):
    """The pair of polynomials of two lists of fractions or whole numbers, as they stand."""
    return (polynomial(*top), polynomial(*below))


def is_plain_quotient(thing):
    """Whether a thing is a quotient in every point of its form, looked at without the program."""
    return (
        type(thing) is tuple
        and len(thing) == 2
        and all(is_plain_polynomial(part) for part in thing)
        and thing[1][:1] == ((1, 1),)
        and len(factor_of(*thing)) == 1
    )


def row_by_hand(one, many):
    """The fractions of a quotient's row."""
    top, below = fractions_of(one[0]), fractions_of(one[1])
    row = []
    for place in range(many):
        behind = sum(below[j] * row[place - j] for j in range(1, min(place, len(below) - 1) + 1))
        row.append((top[place] if place < len(top) else 0) - behind)
    return row


def agreement_by_hand(row, one):
    many = 0
    for here, there in zip(fractions_of(row), row_by_hand(one, len(row))):
        if here != there:
            break
        many += 1
    return many


def belows_by_hand(row, m, n, many):
    """All belows, number 0 being 1, of quotients of heights (m, n) that agree with a row at so many places.

    Told as None where there is none, else as one of them and a list of what may be added, all lists of fractions.
    """
    values = fractions_of(row)
    lines = []
    for i in range(m + 1, many):
        behind = [values[i - j] if i >= j else Fraction(0) for j in range(n + 1)]
        lines.append(behind[1:] + [-behind[0]])
    leads = []
    for column in range(n):
        found = [line for line in lines[len(leads) :] if line[column]]
        if found:
            first = found[0]
            lines.remove(first)
            first = [value / first[column] for value in first]
            lines = [[a - line[column] * b for a, b in zip(line, first)] for line in lines]
            lines.insert(len(leads), first)
            leads.append(column)
    if any(line[n] for line in lines[len(leads) :]):
        return None
    one = [Fraction(1)] + [Fraction(0)] * n
    for line, lead in zip(lines, leads):
        one[1 + lead] = line[n]
    free = []
    for column in range(n):
        if column not in leads:
            more = [Fraction(0)] * (n + 1)
            more[1 + column] = Fraction(1)
            for line, lead in zip(lines, leads):
                more[1 + lead] = -line[column]
            free.append(more)
    return one, free


def top_by_hand(row, below, m):
    """The first m + 1 numbers of a below times a row."""
    values = fractions_of(row)
    return [sum(below[j] * values[i - j] for j in range(min(i, len(below) - 1) + 1)) for i in range(m + 1)]


def some_quotients(seed, many, high, low, figures):
    """Quotients up to these heights, the nought one among them."""
    chance = random.Random(seed)
    found = [quotient([], [1]), quotient([Fraction(-2, 3)], [1]), quotient([], [1]), quotient([0, 0, 1], [1, -1])]
    tops = some_polynomials(chance.random(), 3 * many, high, figures)
    belows = some_polynomials(chance.random(), 3 * many, low, figures)
    while len(found) < many:
        top, below = chance.choice(tops), chance.choice(belows)
        one = (top, ((1, 1),) + below[1:])
        if is_plain_quotient(one):
            found.append(one)
    return found


def some_rows(seed, many, longest, figures):
    """Rows of 1 to longest places: of noughts, with noughts ahead and between, with and without a rule."""
    chance = random.Random(seed)
    found = [polynomial(*[0] * places) for places in (1, 2, longest)]
    found += [polynomial(*[0] * places, 1) for places in (1, longest - 1)]
    found += [polynomial(5, *[0] * (longest - 1)), polynomial(Fraction(-1, 3))]
    ones = some_quotients(chance.random(), many, 3, 3, figures)
    while len(found) < many:
        values = chance.choices(some_fractions(chance.random(), 12, figures), k=chance.randint(1, longest))
        kind = chance.randrange(4)
        if kind == 0:
            values = [0] * chance.randint(0, longest - len(values)) + values
        if kind == 1:
            values = row_by_hand(chance.choice(ones), chance.randint(1, longest))
        if kind == 2:
            values = row_by_hand(chance.choice(ones), len(values) - 1) + values[-1:]
        if kind == 3:
            values = [value * chance.randint(0, 1) for value in values]
        found.append(polynomial(*values))
    return [list(row) for row in found]


# No quotients, though near to some: the checkers may be asked of them.
NO_QUOTIENTS = NEITHER + (
    (), ((),), ((), (), ()), ((), ()), (((1, 1),), ()), (None, None), ((), None), (None, ((1, 1),)), ("", "1"),
    ((), [(1, 1)]), ([], ((1, 1),)), [(), ((1, 1),)], [[], [(1, 1)]], ([(1, 1)], ((1, 1),)), (((1, 1),), [(1, 1)]),
    [((1, 1),), ((1, 1),)], (([1, 1],), ((1, 1),)), (((1, 1),), ([1, 1],)), (1, 1), ((1, 1), (1, 1)), (1, ((1, 1),)),
    ((), ((1, 1),), ()), (((1, 1),), ((1, 1),), ((1, 1),)), (((1, 1),),), (((1, 1),), True), (True, ((1, 1),)),
    (((1, 1),), 1), (((1, 1),), "1"), (((1, 1),), None), (((True, 1),), ((1, 1),)), (((1, 1),), ((True, 1),)),
    (((1, True),), ((1, 1),)), (((1, 1),), ((1, True),)), (((2, 2),), ((1, 1),)), (((1, 1),), ((2, 2),)),
    (((2, 4),), ((1, 1),)), (((0, 1),), ((1, 1),)), (((1, 1), (0, 1)), ((1, 1),)), (((1, 1),), ((1, 1), (0, 1))),
    (((1, -1),), ((1, 1),)), (((1, 1),), ((-1, -1),)), (((1, 0),), ((1, 1),)), (((1, 1),), ((1, 1), (1, 0))),
    (((1, 1),), ((2, 1),)), (((1, 1),), ((-1, 1),)), (((1, 1),), ((1, 2), (1, 1))), (((1, 1),), ((0, 1), (1, 1))),
    ((), ((2, 1),)), ((), ((1, 1), (1, 1))), ((), ((1, 1), (0, 1), (3, 1))), ((), ((0, 1), (1, 1))),
    (((1, 1), (1, 1)), ((1, 1), (1, 1))), (((3, 1), (6, 1)), ((1, 1), (2, 1))),
    (((1, 1), (0, 1), (-1, 1)), ((1, 1), (1, 1))), (((1, 1), (1, 1)), ((1, 1), (0, 1), (-1, 1))),
    (((0, 1), (1, 1), (1, 2)), ((1, 1), (0, 1), (-1, 4))), (((None, 1),), ((1, 1),)), ((("1", 1),), ((1, 1),)),
    (((1, 1), None), ((1, 1),)), (((1, 1),), ((1, 1), "1")), ((((1, 1),),), ((1, 1),)), (((1, 1),), (((1, 1),),)),
)


def as_lists(one):
    """A quotient with lists in place of the tuples, but for the numbers."""
    return [list(one[0]), list(one[1])]


def check_refusal(case, kind, deed, *things):
    """Checks that a deed is refused with an error of just this kind, and changes nothing."""
    kept = copy.deepcopy(things)
    with case.assertRaises(ValueError) as caught:
        deed(*things)
    case.assertIs(type(caught.exception), kind)
    case.assertEqual([each.__name__ for each in kind.__mro__[1:3]], ["FarError", "ValueError"])
    case.assertEqual(repr(things), repr(kept))

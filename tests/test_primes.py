import itertools
import random
import unittest

from farquotient.equations import furthest
from farquotient.errors import NoQuotient, TooShort
from farquotient.primes import agrees_by, brought, furthest_by, quotient_by, row_by, shortest_by
from tests.helper import as_lists, check_refusal, some_rows, told_without_change

NOUGHT = ((), (1,))
PRIMES = (2, 3, 5, 7, 11, 101, 991, 997)


def cut(p, numbers):
    numbers = [number % p for number in numbers]
    while numbers and numbers[-1] == 0:
        numbers.pop()
    return tuple(numbers)


def product_by_hand(p, one, other):
    if not one or not other:
        return ()
    row = [0] * (len(one) + len(other) - 1)
    for i, left in enumerate(one):
        for k, right in enumerate(other):
            row[i + k] += left * right
    return cut(p, row)


def factor_by_hand(p, one, other):
    """The greatest common factor by Euclid's way, as far as a number."""
    while other:
        rest = list(one)
        while len(rest) >= len(other):
            weight, shift = rest[-1] * pow(other[-1], -1, p), len(rest) - len(other)
            for k, value in enumerate(other):
                rest[shift + k] -= weight * value
            rest = list(cut(p, rest))
        one, other = other, tuple(rest)
    return one


def row_by_hand(p, one, many):
    top, below = one
    row = []
    for place in range(many):
        behind = sum(below[j] * row[place - j] for j in range(1, min(place, len(below) - 1) + 1))
        row.append(((top[place] if place < len(top) else 0) - behind) % p)
    return row


def agreement_by_hand(p, row, one):
    many = 0
    for here, there in zip(row, row_by_hand(p, one, len(row))):
        if here != there:
            break
        many += 1
    return many


def is_plain_quotient(p, thing):
    """Whether a thing is a quotient of the prime's numbers in every point of its form."""
    return (
        type(thing) is tuple
        and len(thing) == 2
        and all(type(part) is tuple and all(type(each) is int and 0 <= each < p for each in part) for part in thing)
        and all(not part or part[-1] for part in thing)
        and thing[1][:1] == (1,)
        and len(factor_by_hand(p, *thing)) == 1
    )


def polynomials(p, highest):
    """All polynomials of a prime's numbers up to a degree."""
    return sorted({cut(p, numbers) for numbers in itertools.product(range(p), repeat=highest + 1)})


def quotients(p, m, n):
    """All quotients of heights (m, n), each once, made without the program."""
    tops = polynomials(p, m) if m >= 0 else [()]
    belows = [below for below in polynomials(p, n) if below[:1] == (1,)]
    return [(top, below) for top in tops for below in belows if len(factor_by_hand(p, top, below)) == 1]


def some_polynomials(p, seed, many, highest):
    chance = random.Random(f"{p} {seed}")
    found = [(), (1,), (p - 1,), (0, 1)]
    while len(found) < many:
        found.append(cut(p, [chance.randrange(p) for place in range(chance.randint(1, highest + 1))]))
    return found


def some_quotients(p, seed, many, high, low):
    chance = random.Random(f"{p} {seed}")
    found = [NOUGHT, ((1,), (1,)), ((p - 1,), (1,))]
    tops, belows = some_polynomials(p, seed, 40, high), some_polynomials(p, f"{seed} below", 40, low)
    while len(found) < many:
        one = (chance.choice(tops), (1,) + chance.choice(belows)[1:])
        if is_plain_quotient(p, one):
            found.append(one)
    return found


class Brought(unittest.TestCase):
    def test_examples(self):
        self.assertEqual(brought(7, [(1, 1), (-1, 1), (1, 2), (9, 1), (0, 1)]), [1, 6, 4, 2, 0])
        self.assertEqual(brought(2, [(1, 3), (4, 5), (-7, 9)]), [1, 0, 1])
        self.assertEqual(brought(997, [(1, 996)]), [996])
        self.assertEqual(repr(brought(5, [])), "[]")

    def test_a_below_that_the_prime_goes_into(self):
        self.assertIsNone(brought(7, [(1, 7)]))
        self.assertIsNone(brought(7, [(1, 1), (3, 14), (2, 1)]))
        self.assertIsNone(brought(2, [(1, 1), (1, 2)]))
        self.assertIsNone(brought(997, [(5, 997 * 10**30)]))
        # A top that the prime goes into is nought.
        self.assertEqual(brought(7, [(7, 1), (-14, 3)]), [0, 0])

    def test_against_fractions(self):
        for p in PRIMES:
            for numbers in some_rows("brought", 30, 8, 40):
                told = told_without_change(self, brought, p, numbers)
                if any(below % p == 0 for top, below in numbers):
                    self.assertIsNone(told)
                else:
                    self.assertIs(type(told), list)
                    self.assertTrue(all(type(each) is int and 0 <= each < p for each in told))
                    for (top, below), each in zip(numbers, told, strict=True):
                        self.assertEqual((each * below - top) % p, 0)
                self.assertEqual(repr(brought(p, tuple(numbers))), repr(told))


class QuotientBy(unittest.TestCase):
    def test_examples(self):
        self.assertEqual(quotient_by(7, (1,), (1, 6)), ((1,), (1, 6)))
        self.assertEqual(quotient_by(7, (3,), (2, 1)), ((5,), (1, 4)))
        # x x less 1 by x and 1 is x less 1.
        self.assertEqual(quotient_by(7, (6, 0, 1), (1, 1)), ((6, 1), (1,)))
        self.assertEqual(quotient_by(2, (1, 0, 1), (1, 1)), ((1, 1), (1,)))

    def test_nought_above(self):
        for p in PRIMES:
            for below in some_polynomials(p, "nought above", 20, 6):
                if below:
                    self.assertEqual(quotient_by(p, (), below), NOUGHT)

    def test_noughts_ahead(self):
        self.assertEqual(quotient_by(5, (0, 1), (0, 1)), ((1,), (1,)))
        self.assertEqual(quotient_by(5, (0, 0, 1), (0, 1)), ((0, 1), (1,)))
        self.assertEqual(quotient_by(5, (0, 3, 1), (0, 2, 4)), quotient_by(5, (3, 1), (2, 4)))
        check_refusal(self, NoQuotient, quotient_by, 5, (0, 1), (0, 0, 1))

    def test_refused(self):
        for p in PRIMES:
            for top in some_polynomials(p, "refused", 8, 4):
                check_refusal(self, NoQuotient, quotient_by, p, top, ())
                check_refusal(self, NoQuotient, quotient_by, p, list(top), [])
                if top and top[0]:
                    check_refusal(self, NoQuotient, quotient_by, p, top, (0, 1))
                    check_refusal(self, NoQuotient, quotient_by, p, top, (0, 0, 1))

    def test_refused_behind_a_common_factor(self):
        check_refusal(self, NoQuotient, quotient_by, 7, (1, 1), (0, 1, 1))
        check_refusal(self, NoQuotient, quotient_by, 2, (1, 1), (0, 1, 0, 1))

    def test_common_factors(self):
        for p in PRIMES:
            for one in some_quotients(p, "common", 12, 4, 4):
                for factor in some_polynomials(p, "factor", 10, 3):
                    if factor:
                        top, below = product_by_hand(p, one[0], factor), product_by_hand(p, one[1], factor)
                        told = told_without_change(self, quotient_by, p, top, below)
                        self.assertEqual(told, one)
                        self.assertTrue(is_plain_quotient(p, told))
                        self.assertEqual(repr(quotient_by(p, list(top), list(below))), repr(told))

    def test_all_small_ones(self):
        for p in (2, 3):
            for top in polynomials(p, 3):
                for below in polynomials(p, 2):
                    left = below
                    if below and not top:
                        left = (1,)
                    elif below:
                        ahead = min(next(i for i, v in enumerate(one) if v) for one in (top, below))
                        left = below[ahead:]
                    if not left or not left[0]:
                        check_refusal(self, NoQuotient, quotient_by, p, top, below)
                        continue
                    told = quotient_by(p, top, below)
                    self.assertTrue(is_plain_quotient(p, told), (top, below, told))
                    self.assertEqual(product_by_hand(p, told[0], below), product_by_hand(p, top, told[1]))


class RowBy(unittest.TestCase):
    def test_examples(self):
        self.assertEqual(row_by(7, ((0, 1), (1, 6, 6)), 8), [0, 1, 1, 2, 3, 5, 1, 6])
        self.assertEqual(row_by(2, ((1,), (1, 1)), 4), [1, 1, 1, 1])
        self.assertEqual(row_by(5, NOUGHT, 3), [0, 0, 0])
        self.assertEqual(row_by(5, ((1, 2), (1,)), 4), [1, 2, 0, 0])
        self.assertEqual(repr(row_by(5, ((1,), (1,)), 0)), "[]")

    def test_of_nought_to_a_hundred_places(self):
        for p in PRIMES:
            for one in some_quotients(p, "rows", 12, 5, 5):
                for many in (0, 1, 2, 7, 24, 100):
                    told = told_without_change(self, row_by, p, one, many)
                    self.assertIs(type(told), list)
                    self.assertEqual(repr(told), repr(row_by_hand(p, one, many)))
                    self.assertEqual(repr(row_by(p, as_lists(one), many)), repr(told))


class AgreesBy(unittest.TestCase):
    def test_examples(self):
        one = ((1,), (1, 6))
        self.assertEqual(agrees_by(7, [1, 1, 1], one), 3)
        self.assertEqual(agrees_by(7, [1, 1, 2], one), 2)
        self.assertEqual(agrees_by(7, [0, 1, 1], one), 0)
        self.assertEqual(agrees_by(2, [0, 0, 1], NOUGHT), 2)

    def test_rows_changed_at_one_place(self):
        for p in PRIMES:
            for one in some_quotients(p, "agrees", 12, 4, 4):
                row = row_by_hand(p, one, 12)
                self.assertEqual(agrees_by(p, row, one), 12)
                for place in range(12):
                    changed = row[:place] + [(row[place] + 1) % p] + row[place + 1 :]
                    told = told_without_change(self, agrees_by, p, changed, one)
                    self.assertIs(type(told), int)
                    self.assertEqual(told, place)
                    self.assertEqual(agrees_by(p, tuple(changed), as_lists(one)), place)


class FurthestBy(unittest.TestCase):
    def check_far(self, p, row, m, n):
        """Looks at the told quotient by how far it agrees, which shows it to be the furthest."""
        told = furthest_by(p, row, m, n)
        self.assertTrue(is_plain_quotient(p, told), (p, row, m, n, told))
        spare = n if not told[0] else min(m - len(told[0]) + 1, n - len(told[1]) + 1)
        self.assertGreaterEqual(spare, 0)
        self.assertGreaterEqual(agreement_by_hand(p, row, told), m + n + 1 - spare)

    def test_examples(self):
        self.assertEqual(furthest_by(7, [0, 1, 1, 2, 3], 2, 2), ((0, 1), (1, 6, 6)))
        self.assertEqual(furthest_by(7, [1, 1, 4], 1, 1), ((1, 4), (1, 3)))
        self.assertEqual(furthest_by(2, [1, 0, 1], 1, 1), ((1,), (1,)))
        self.assertEqual(furthest_by(3, [0, 0, 1], 1, 1), NOUGHT)
        self.assertEqual(furthest_by(5, [3], 0, 0), ((3,), (1,)))

    def test_against_all_quotients_of_the_heights(self):
        for p, places in ((2, 6), (3, 4)):
            heights = [(m, n) for m in range(places) for n in range(places - m)]
            every = {(m, n): quotients(p, m, n) for m, n in heights}
            rows = {one: row_by_hand(p, one, places) for ones in every.values() for one in ones}
            for row in itertools.product(range(p), repeat=places):
                for m, n in heights:
                    far = [(self.alike(row, rows[one]), one) for one in every[(m, n)]]
                    most = max(far)[0]
                    self.assertEqual([one for many, one in far if many == most], [furthest_by(p, row, m, n)])

    def alike(self, row, other):
        return next((place for place, (here, there) in enumerate(zip(row, other)) if here != there), len(row))

    def test_ordinary_rows(self):
        chance = random.Random("ordinary")
        for p in PRIMES:
            for count in range(12):
                places = chance.randint(1, 12)
                row = [chance.randrange(p) * chance.randint(0, 2) % p for place in range(places)]
                for m in range(places):
                    for n in range(places - m):
                        self.check_far(p, row, m, n)

    def test_rows_of_quotients(self):
        for p in PRIMES:
            for one in some_quotients(p, "found", 8, 2, 3):
                row = row_by_hand(p, one, 12)
                for m in range(2, 8):
                    for n in range(3, 12 - m):
                        self.assertEqual(furthest_by(p, row, m, n), one)

    def test_just_enough_places_and_one_too_few(self):
        chance = random.Random("enough")
        for p in (2, 3, 997):
            row = [chance.randrange(p) for place in range(24)]
            for m, n in ((0, 0), (0, 1), (1, 0), (3, 4), (0, 23), (23, 0), (11, 12)):
                self.check_far(p, row[: m + n + 1], m, n)
                check_refusal(self, TooShort, furthest_by, p, row[: m + n], m, n)
                check_refusal(self, TooShort, furthest_by, p, tuple(row[: m + n]), m, n)
            check_refusal(self, TooShort, furthest_by, p, [1], 23, 23)

    def test_only_the_first_places_count(self):
        for p in (2, 3, 997):
            for tail in ([0, 0], [1, 1], [p - 1, 1]):
                self.assertEqual(furthest_by(p, [1, 1, 0, 1] + tail, 1, 2), furthest_by(p, [1, 1, 0, 1], 1, 2))

    def test_of_24_places(self):
        chance = random.Random("24")
        for p in PRIMES:
            row = [chance.randrange(p) for place in range(24)]
            for m in range(24):
                self.check_far(p, row, m, 23 - m)

    def test_as_the_fractions_brought(self):
        # Where the prime goes into no number that turns up, what is furthest brought is furthest of what is brought.
        for p in (101, 997):
            for numbers in some_rows("brought", 20, 7, 1):
                m, n = len(numbers) // 2, (len(numbers) - 1) // 2
                one = furthest(numbers, m, n)
                top, below, row = brought(p, one[0]), brought(p, one[1]), brought(p, numbers)
                if row is not None and top is not None and below is not None:
                    told = quotient_by(p, cut(p, top), cut(p, below))
                    if len(told[0]) == len(top) and len(told[1]) == len(below):
                        self.assertEqual(told, furthest_by(p, row, m, n))

    def test_handed_in_things_stay(self):
        for p in (2, 7, 997):
            for row in ([1, 0, 1, 1, 0], [0, 0, 1, 1], [1, 1, 1, 1, 1, 1]):
                told = told_without_change(self, furthest_by, p, row, 1, 2)
                self.assertEqual(repr(told_without_change(self, furthest_by, p, tuple(row), 1, 2)), repr(told))


class ShortestBy(unittest.TestCase):
    def test_examples(self):
        self.assertEqual(shortest_by(7, [0, 1, 1, 2]), (2, ((0, 1), (1, 6, 6))))
        self.assertEqual(shortest_by(7, [0, 1, 1]), (2, None))
        self.assertEqual(shortest_by(2, [1, 1, 1]), (1, ((1,), (1, 1))))
        self.assertEqual(shortest_by(2, [1]), (1, None))
        self.assertEqual(shortest_by(2, [0]), (0, NOUGHT))
        self.assertEqual(shortest_by(2, [0, 0, 1]), (3, None))

    def test_noughts(self):
        for p in PRIMES:
            for places in (1, 2, 3, 24):
                self.assertEqual(shortest_by(p, [0] * places), (0, NOUGHT))
                self.assertEqual(shortest_by(p, [0] * places + [1]), (places + 1, None))
                self.assertEqual(shortest_by(p, [1] + [0] * places), (1, ((1,), (1,))))

    def test_against_all_quotients(self):
        for p, places in ((2, 6), (3, 4)):
            every = [quotients(p, n - 1, n) for n in range(places + 1)]
            rows = {one: tuple(row_by_hand(p, one, places)) for ones in every for one in ones}
            for many in range(1, places + 1):
                for row in itertools.product(range(p), repeat=many):
                    found = [[one for one in ones if rows[one][:many] == row] for ones in every]
                    n = next(n for n, ones in enumerate(found) if ones)
                    self.assertEqual(len(found[n]) == 1, 2 * n <= many)
                    self.assertEqual(shortest_by(p, row), (n, found[n][0] if 2 * n <= many else None))

    def test_rows_of_quotients(self):
        for p in PRIMES:
            for one in some_quotients(p, "shortest", 12, 4, 5):
                n = max(len(one[0]), len(one[1]) - 1)
                for places in (2 * n, 2 * n + 1, 24):
                    if places > 0:
                        row = row_by_hand(p, one, places)
                        told = told_without_change(self, shortest_by, p, row)
                        self.assertEqual(told, (n, one))
                        self.assertIs(type(told), tuple)
                        self.assertIs(type(told[0]), int)
                        self.assertTrue(is_plain_quotient(p, told[1]))
                        self.assertEqual(repr(told_without_change(self, shortest_by, p, tuple(row))), repr(told))

    def test_ordinary_rows(self):
        chance = random.Random("ordinary")
        for p in PRIMES:
            for places in range(1, 25):
                row = [chance.randrange(p) for place in range(places)]
                n, one = shortest_by(p, row)
                self.assertEqual(one is None, 2 * n > places)
                if one is not None:
                    self.assertEqual(one, furthest_by(p, row, n - 1, n))
                    self.assertEqual(agreement_by_hand(p, row, one), places)
                for less in range(1, min(n, (places + 1) // 2)):
                    self.assertLess(agreement_by_hand(p, row, furthest_by(p, row, less - 1, less)), places)


class Told(unittest.TestCase):
    def test_told_lists_are_new(self):
        numbers = [(1, 1), (1, 2)]
        for deed, things in (
            (brought, (7, numbers)), (brought, (7, [])), (row_by, (7, ((1,), (1, 3)), 4)), (row_by, (7, NOUGHT, 0)),
        ):
            kept = repr(deed(*things))
            first, second = deed(*things), deed(*things)
            self.assertIsNot(first, second)
            first.append(None)
            self.assertEqual(repr(second), kept)
            self.assertEqual(repr(deed(*things)), kept)

    def test_told_things_stay_and_may_be_handed_in_again(self):
        row, one = [1, 2, 4, 1, 0], [[1, 2], [1, 3]]
        told = (furthest_by(7, row, 2, 2), shortest_by(7, row), quotient_by(7, *one), row_by(7, one, 5))
        kept = repr(told)
        row[0] = 3
        one[0].clear()
        self.assertEqual(repr(told), kept)
        self.assertEqual(furthest_by(7, row_by(7, told[0], 9), 4, 4), told[0])
        self.assertEqual(agrees_by(7, told[3], told[2]), 5)

    def test_arguments_bear_their_names(self):
        self.assertEqual(brought(p=2, numbers=[(1, 1)]), [1])
        self.assertEqual(quotient_by(p=2, top=(1,), below=(1, 1)), ((1,), (1, 1)))
        self.assertEqual(row_by(p=2, one=NOUGHT, many=1), [0])
        self.assertEqual(agrees_by(p=2, row=[0], one=NOUGHT), 1)
        self.assertEqual(furthest_by(p=2, row=[1], m=0, n=0), ((1,), (1,)))
        self.assertEqual(shortest_by(p=2, row=[0]), (0, NOUGHT))


if __name__ == "__main__":
    unittest.main()

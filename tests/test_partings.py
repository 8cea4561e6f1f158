import unittest
from fractions import Fraction

from farquotient.equations import furthest, shows_furthest
from farquotient.errors import TooShort
from farquotient.partings import by_parting, partings, slope
from farquotient.quotients import row_of
from tests.helper import (
    agreement_by_hand,
    check_refusal,
    cut,
    fraction,
    fractions_of,
    is_plain_number,
    is_plain_polynomial,
    is_plain_quotient,
    polynomial,
    product_of,
    product_of_roots,
    quotient,
    rest_of,
    some_fractions,
    some_polynomials,
    some_quotients,
    some_rows,
    sum_of,
    told_without_change,
    value_of,
)

NOUGHT = ((), ((1, 1),))
HALF = Fraction(1, 2)


def heights_within(places):
    """All heights for which a row of so many places has enough."""
    return [(m, n) for m in range(places) for n in range(places - m)]


def row(*values):
    return list(polynomial(*values))


def divided(one, other):
    """How often other goes in one, by long division of fractions."""
    rest, other = fractions_of(one), fractions_of(other)
    often = [Fraction(0)] * max(0, len(rest) - len(other) + 1)
    while len(rest) >= len(other):
        weight, shift = rest[-1] / other[-1], len(rest) - len(other)
        often[shift] = weight
        for place, number in enumerate(other):
            rest[shift + place] -= weight * number
        rest = cut(rest)
    return polynomial(*often)


class ByParting(unittest.TestCase):
    def check_far(self, numbers, m, n):
        told = by_parting(numbers, m, n)
        self.assertTrue(is_plain_quotient(told), told)
        self.assertEqual(told, furthest(numbers, m, n))
        spared = n if not told[0] else min(m - len(told[0]) + 1, n - len(told[1]) + 1)
        self.assertGreaterEqual(spared, 0)
        self.assertGreaterEqual(agreement_by_hand(numbers, told), m + n + 1 - spared)
        self.assertIs(shows_furthest(numbers, m, n, told), True)

    def test_examples(self):
        self.assertEqual(by_parting(row(1, 1, 1), 0, 1), quotient([1], [1, -1]))
        self.assertEqual(by_parting(row(1, 1, HALF), 1, 1), quotient([1, HALF], [1, -HALF]))
        self.assertEqual(by_parting(row(1, 1, HALF), 0, 2), quotient([1], [1, -1, HALF]))
        self.assertEqual(by_parting(row(0, 1, 1, 2, 3), 2, 2), quotient([0, 1], [1, -1, -1]))
        self.assertEqual(by_parting(row(1, 0, 1), 1, 1), quotient([1], [1]))

    def test_noughts(self):
        for places in (1, 2, 5, 24):
            for m, n in heights_within(places)[:: max(1, places // 3)]:
                self.assertEqual(by_parting([(0, 1)] * places, m, n), NOUGHT)
        for ahead in range(5):
            numbers = row(*[0] * ahead, 3, HALF, 7, -2, 1, 1)
            for m, n in heights_within(len(numbers)):
                self.assertEqual(by_parting(numbers, m, n) == NOUGHT, m < ahead)
                self.check_far(numbers, m, n)

    def test_it_tells_what_the_equations_tell(self):
        for numbers in some_rows("by parting", 60, 10, 3):
            for m, n in heights_within(len(numbers)):
                self.check_far(numbers, m, n)

    def test_all_small_rows(self):
        for code in range(3**6):
            numbers = row(*[code // 3**place % 3 - 1 for place in range(6)])
            for m, n in heights_within(6):
                self.assertEqual(by_parting(numbers, m, n), furthest(numbers, m, n))

    def test_rows_of_a_quotient_tell_it_again(self):
        for one in some_quotients("again", 30, 5, 5, 6):
            high, low = len(one[0]) - 1, len(one[1]) - 1
            for m in range(max(high, 0), high + 3):
                for n in range(low, low + 3):
                    for more in (0, 3):
                        self.assertEqual(by_parting(row_of(one, m + n + 1 + more), m, n), one)

    def test_of_forty_figures_and_24_places(self):
        numbers = row(*some_fractions("far", 24, 40)[::-1])
        for m, n in ((23, 0), (18, 5), (5, 6), (0, 6), (15, 8)):
            told = by_parting(numbers, m, n)
            self.assertTrue(all(is_plain_number(number) for part in told for number in part))
            self.assertEqual(told, furthest(numbers, m, n))

    def test_just_enough_places_and_one_too_few(self):
        for places in (1, 2, 3, 8, 24):
            numbers = row(*range(1, places + 1))
            for m in range(places + 1):
                if m < places:
                    self.check_far(numbers, m, places - 1 - m)
                check_refusal(self, TooShort, by_parting, numbers, m, places - m)
        check_refusal(self, TooShort, by_parting, row(1), 23, 23)
        check_refusal(self, TooShort, by_parting, tuple(row(0, 0)), 0, 2)


class Partings(unittest.TestCase):
    def check_partings(self, one, other):
        told = partings(one, other)
        self.assertIs(type(told), list)
        awaited = []
        while other:
            awaited.append(divided(one, other))
            one, other = other, rest_of(one, other)
        self.assertEqual(told, awaited)
        self.assertTrue(all(is_plain_polynomial(each) for each in told), told)

    def test_examples(self):
        self.assertEqual(
            partings(polynomial(1, 0, 1), polynomial(1, 1)), [polynomial(-1, 1), polynomial(HALF, HALF)]
        )
        self.assertEqual(
            partings(polynomial(0, 0, 0, 1), polynomial(1, 1, HALF)),
            [polynomial(-4, 2), polynomial(0, Fraction(1, 4)), polynomial(4, 2)],
        )

    def test_that_leave_no_rest_at_once(self):
        self.assertEqual(partings(polynomial(-1, 0, 1), polynomial(1, 1)), [polynomial(-1, 1)])
        self.assertEqual(partings(polynomial(4, 6), polynomial(2, 3)), [polynomial(2)])
        self.assertEqual(partings(polynomial(1, 2, 3), polynomial(-2)), [polynomial(-HALF, -1, Fraction(-3, 2))])
        self.assertEqual(partings(polynomial(5), polynomial(5)), [polynomial(1)])

    def test_of_nought(self):
        for other in some_polynomials("of nought", 20, 12, 40):
            if other:
                self.assertEqual(partings((), other), [()])

    def test_of_a_lesser_degree(self):
        self.assertEqual(partings(polynomial(1, 1), polynomial(-1, 0, 1)), [(), polynomial(-1, 1)])
        self.assertEqual(partings(polynomial(3), polynomial(0, 6)), [(), polynomial(0, 2)])
        self.check_partings(polynomial(1, 2), polynomial(1, 0, 2))

    def test_common_factors(self):
        one, other = product_of_roots(1, 2, HALF, 3), product_of_roots(2, HALF, -3, 7)
        self.check_partings(one, other)
        self.check_partings(product_of(one, polynomial(0, -5)), product_of(other, polynomial(0, Fraction(6, 7))))
        self.check_partings(one, one)

    def test_rests_that_fall_by_several_degrees(self):
        for high in range(1, 10):
            for low in range(1, 10):
                one = polynomial(*([-1] + [0] * (high - 1) + [2]))
                other = polynomial(*([HALF] + [0] * (low - 1) + [-3]))
                self.check_partings(one, other)

    def test_against_fractions(self):
        ones = some_polynomials("partings", 24, 6, 4)
        for one in ones:
            for other in ones:
                if other:
                    self.check_partings(one, other)

    def test_of_forty_figures_and_degree_seven(self):
        values = [number or Fraction(1) for number in some_fractions("far", 16, 40)]
        one, other = polynomial(*values[:8]), polynomial(*values[8:])
        # Built up again from the last on, the two are there but for a common number.
        high, low = polynomial(1), ()
        for often in reversed(partings(one, other)):
            high, low = sum_of(product_of(often, high), low), high
        scale = fraction(one[-1]) / fraction(high[-1])
        self.assertEqual(product_of(high, polynomial(scale)), one)
        self.assertEqual(product_of(low, polynomial(scale)), other)

    def test_of_forty_figures_and_degree_twelve(self):
        values = [number or Fraction(1) for number in some_fractions("further", 26, 40)]
        one, other = polynomial(*values[:13]), polynomial(*values[13:])
        told = partings(one, other)
        self.assertEqual([len(each) for each in told], [1] + [2] * 12)
        high, low = 1, 0
        for often in reversed(told):
            high, low = value_of(often, (2, 1)) * high + low, high
        self.assertEqual(high * value_of(other, (2, 1)), low * value_of(one, (2, 1)))


class Slope(unittest.TestCase):
    def check_slope(self, numbers):
        told = slope(numbers)
        self.assertIs(type(told), list)
        awaited = []
        for m in reversed(range(len(numbers))):
            one = furthest(numbers, m, len(numbers) - 1 - m)
            if awaited and awaited[-1][2] == one:
                awaited[-1] = (awaited[-1][0], m, one)
            else:
                awaited.append((m, m, one))
        self.assertEqual(told, awaited)
        for step in told:
            self.assertIs(type(step), tuple)
            self.assertTrue(all(type(number) is int for number in step[:2]))
            self.assertTrue(is_plain_quotient(step[2]), step)

    def test_examples(self):
        self.assertEqual(
            slope(row(1, 1, HALF)),
            [
                (2, 2, quotient([1, 1, HALF], [1])),
                (1, 1, quotient([1, HALF], [1, -HALF])),
                (0, 0, quotient([1], [1, -1, HALF])),
            ],
        )
        self.assertEqual(slope(row(1, 2, 4, 8)), [(3, 3, quotient([1, 2, 4, 8], [1])), (2, 0, quotient([1], [1, -2]))])
        self.assertEqual(
            slope(row(0, 0, 5)), [(2, 2, quotient([0, 0, 5], [1])), (1, 0, NOUGHT)]
        )

    def test_one_place(self):
        self.assertEqual(slope(row(0)), [(0, 0, NOUGHT)])
        self.assertEqual(slope(row(Fraction(-2, 3))), [(0, 0, quotient([Fraction(-2, 3)], [1]))])

    def test_noughts_alone(self):
        for places in (1, 2, 3, 24):
            self.assertEqual(slope([(0, 1)] * places), [(places - 1, 0, NOUGHT)])

    def test_noughts_ahead_and_behind(self):
        self.assertEqual(slope(row(3, 0, 0, 0)), [(3, 0, quotient([3], [1]))])
        self.assertEqual(
            slope(row(0, 3, 0, 0)), [(3, 1, quotient([0, 3], [1])), (0, 0, NOUGHT)]
        )
        for ahead in range(6):
            for behind in range(6):
                self.check_slope(row(*[0] * ahead, 3, HALF, 7, -2, *[0] * behind))
                self.check_slope(row(*[0] * ahead, 1, *[0] * behind))

    def test_against_the_equations(self):
        for numbers in some_rows("slope", 120, 11, 3):
            self.check_slope(numbers)

    def test_all_small_rows(self):
        for code in range(3**6):
            self.check_slope(row(*[code // 3**place % 3 - 1 for place in range(6)]))

    def test_of_24_places(self):
        rows = [row_of(one, 24) for one in some_quotients("rule", 8, 5, 5, 4)]
        for numbers in rows + [row(*some_fractions("far", 24, 8)[::-1])]:
            told = slope(numbers)
            self.assertEqual((told[0][0], told[-1][1]), (23, 0))
            for older, newer in zip(told, told[1:]):
                self.assertEqual(older[1], newer[0] + 1)
                self.assertNotEqual(older[2], newer[2])
            for high, low, one in told:
                for m in {high, low, (high + low) // 2}:
                    self.assertIs(shows_furthest(numbers, m, 23 - m, one), True)


class HandedIn(unittest.TestCase):
    """Lists stand for tuples, nothing handed in is changed, and what is told is new."""

    def test_rows(self):
        for numbers in some_rows("handed", 30, 8, 2):
            told = told_without_change(self, slope, numbers)
            self.assertEqual(repr(told_without_change(self, slope, tuple(numbers))), repr(told))
            for m, n in heights_within(len(numbers)):
                told = told_without_change(self, by_parting, numbers, m, n)
                self.assertEqual(repr(told_without_change(self, by_parting, tuple(numbers), m, n)), repr(told))

    def test_polynomials(self):
        ones = some_polynomials("handed", 10, 6, 4)
        for one in ones:
            for other in ones:
                if other:
                    told = told_without_change(self, partings, one, other)
                    for left, right in ((list(one), other), (one, list(other)), (list(one), list(other))):
                        self.assertEqual(repr(told_without_change(self, partings, left, right)), repr(told))

    def test_told_lists_are_new(self):
        numbers, one, other = row(1, 2, 4, 9), polynomial(1, 0, 1), polynomial(1, 1)
        for deed, things in ((slope, (numbers,)), (partings, (one, other)), (partings, ((), other))):
            kept = repr(deed(*things))
            first, second = deed(*things), deed(*things)
            self.assertIsNot(first, second)
            first.clear()
            self.assertEqual(repr(second), kept)
            self.assertEqual(repr(deed(*things)), kept)

    def test_a_list_changed_later_changes_nothing_told(self):
        numbers, one, other = row(1, 2, 4, 9), row(1, 0, 1), row(1, 1)
        told = (slope(numbers), by_parting(numbers, 3, 0), partings(one, other))
        kept = repr(told)
        for each in (numbers, one, other):
            each[0] = (7, 1)
            each.append((3, 1))
        self.assertEqual(repr(told), kept)

    def test_told_things_may_be_handed_in_again(self):
        one = by_parting(row(*some_fractions("told", 12, 12)[::-1]), 6, 5)
        self.assertEqual(by_parting(row_of(one, 14), 7, 6), one)
        often = partings(*one)
        self.assertEqual(often[0], divided(*one))
        self.assertEqual(len(often), len(one[1]))
        self.assertEqual(partings(often[1], often[1]), [polynomial(1)])

    def test_arguments_bear_their_names(self):
        self.assertEqual(by_parting(row=row(1, 1), m=0, n=1), quotient([1], [1, -1]))
        self.assertEqual(slope(row=row(1)), [(0, 0, quotient([1], [1]))])
        self.assertEqual(partings(one=polynomial(2), other=polynomial(1)), [polynomial(2)])


if __name__ == "__main__":
    unittest.main()

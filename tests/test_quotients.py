import random
import unittest
from fractions import Fraction

from farquotient.errors import NoQuotient, Pole
from farquotient.quotients import agrees, heights, is_quotient, quotient_of, row_of, value
from tests.helper import (
    NO_QUOTIENTS,
    agreement_by_hand,
    as_lists,
    check_refusal,
    factor_of,
    fraction,
    fractions_of,
    is_plain_number,
    is_plain_quotient,
    pair,
    polynomial,
    product_of,
    product_of_roots,
    quotient,
    row_by_hand,
    some_fractions,
    some_polynomials,
    some_quotients,
    some_rows,
    told_without_change,
    value_of,
)

NOUGHT = ((), ((1, 1),))
UNIT = (((1, 1),), ((1, 1),))
HALF = Fraction(1, 2)
THIRD = Fraction(1, 3)


class Asking(unittest.TestCase):
    def test_quotients_are(self):
        for thing in (
            NOUGHT,
            UNIT,
            quotient([HALF], [1]),
            quotient([0, 1], [1]),
            quotient([1], [1, 1]),
            quotient([1, 1], [1, -1]),
            quotient([0, 0, -7], [1, 0, THIRD]),
            quotient(range(13), [1] * 13),
        ):
            self.assertIs(is_quotient(thing), True, thing)

    def test_those_of_many_figures_are(self):
        for one in some_quotients("asking", 40, 12, 12, 40):
            self.assertIs(is_quotient(one), True)

    def test_nothing_else_is(self):
        for thing in NO_QUOTIENTS:
            self.assertIs(is_quotient(thing), False, thing)

    def test_lists_are_none(self):
        for top, below in some_quotients("lists", 20, 6, 6, 6):
            for thing in ([top, below], (list(top), below), (top, list(below)), [list(top), list(below)]):
                self.assertIs(is_quotient(thing), False)
            self.assertIs(is_quotient((top, tuple(list(number) for number in below))), False)

    def test_common_factors_are_seen(self):
        factors = [product_of_roots(3), polynomial(1, 0, 1), polynomial(1, HALF, Fraction(-2, 9))]
        for top, below in some_quotients("factors", 30, 9, 9, 30):
            for factor in factors:
                scaled = polynomial(*[number / fraction(factor[0]) for number in fractions_of(factor)])
                self.assertIs(is_quotient((product_of(top, scaled), product_of(below, scaled))), False)

    def test_a_below_with_another_number_0_is_seen(self):
        for top, below in some_quotients("number 0", 30, 6, 6, 6):
            for first in ((2, 1), (-1, 1), (1, 2), (0, 1)):
                self.assertIs(is_quotient((top, (first,) + below[1:])), False)


class Making(unittest.TestCase):
    def check_made(self, top, below, awaited):
        told = quotient_of(top, below)
        self.assertTrue(is_plain_quotient(told), told)
        self.assertEqual(told, awaited)

    def test_examples(self):
        self.check_made(polynomial(2), polynomial(4, 2), quotient([HALF], [1, HALF]))
        self.check_made(polynomial(1, 2), polynomial(1), quotient([1, 2], [1]))
        self.check_made(polynomial(0, 3), polynomial(-6, 0, 1), quotient([0, -HALF], [1, 0, Fraction(-1, 6)]))
        self.check_made(polynomial(-1, 0, 1), polynomial(-1, 1), quotient([1, 1], [1]))
        self.check_made(polynomial(-1, 1), polynomial(-1, 0, 1), quotient([1], [1, 1]))

    def test_of_top_nought(self):
        for below in some_polynomials("top nought", 30, 12, 40):
            if below:
                self.check_made((), below, NOUGHT)
        for below in (polynomial(0, 1), polynomial(0, 0, Fraction(-3, 7)), polynomial(0, 1, 1)):
            self.check_made((), below, NOUGHT)

    def test_below_nought_is_refused(self):
        for top in ((), [], polynomial(1), polynomial(0, 2), polynomial(1, 2, 3)):
            for below in ((), []):
                check_refusal(self, NoQuotient, quotient_of, top, below)

    def test_number_0_nought_with_nothing_in_common_is_refused(self):
        check_refusal(self, NoQuotient, quotient_of, polynomial(1), polynomial(0, 1))
        check_refusal(self, NoQuotient, quotient_of, polynomial(1, 1), polynomial(0, 0, 5))
        check_refusal(self, NoQuotient, quotient_of, [(3, 1)], [(0, 1), (1, 2), (1, 1)])

    def test_number_0_nought_that_falls_off(self):
        self.check_made(polynomial(0, 1), polynomial(0, 1), UNIT)
        self.check_made(polynomial(0, 0, 1), polynomial(0, 2), quotient([0, HALF], [1]))
        self.check_made(polynomial(0, 3), polynomial(0, 2, 4), quotient([Fraction(3, 2)], [1, 2]))
        self.check_made(polynomial(0, 0, 5, 5), polynomial(0, 0, 5, 0, -5), quotient([1], [1, -1]))

    def test_number_0_nought_behind_common_factors_is_refused(self):
        check_refusal(self, NoQuotient, quotient_of, polynomial(0, 1), polynomial(0, 0, 1))
        check_refusal(self, NoQuotient, quotient_of, polynomial(1, 1), polynomial(0, 1, 1))
        check_refusal(self, NoQuotient, quotient_of, polynomial(0, 1, 1), polynomial(0, 0, 1, 1))

    def test_common_factors_are_taken_out(self):
        factors = [one for one in some_polynomials("factors", 12, 5, 20) if one]
        ones = some_quotients("making", 30, 7, 7, 20)
        for place, one in enumerate(ones):
            factor = factors[place % len(factors)]
            self.check_made(product_of(one[0], factor), product_of(one[1], factor), one)

    def test_against_euclid(self):
        ones = some_polynomials("euclid", 24, 5, 4)
        for top in ones:
            for below in ones:
                if not below or (top and self.noughts_ahead(below) > self.noughts_ahead(top)):
                    check_refusal(self, NoQuotient, quotient_of, top, below)
                else:
                    told = quotient_of(top, below)
                    self.assertTrue(is_plain_quotient(told), told)
                    self.assertEqual(product_of(told[0], below), product_of(told[1], top))
                    self.assertEqual(len(told[1]), len(below) - len(factor_of(top, below)) + 1)

    def noughts_ahead(self, one):
        return [number != (0, 1) for number in one].index(True)

    def test_of_a_hundred_figures(self):
        values = [number or Fraction(1) for number in some_fractions("hundred", 26, 100)]
        top, below = polynomial(*values[:13]), polynomial(*values[13:])
        told = quotient_of(top, below)
        self.assertTrue(all(is_plain_number(number) for part in told for number in part))
        self.assertEqual(told[1][0], (1, 1))
        self.assertEqual(product_of(told[0], below), product_of(told[1], top))
        factor = polynomial(*values[4:7], 1)
        top, below = polynomial(*values[7:16]), polynomial(*values[16:25])
        self.assertEqual(
            quotient_of(product_of(top, factor), product_of(below, factor)), quotient_of(top, below)
        )

    def test_of_a_quotients_own_parts(self):
        for one in some_quotients("own parts", 30, 12, 12, 40):
            self.assertEqual(quotient_of(*one), one)


class Heights(unittest.TestCase):
    def test_heights(self):
        self.assertEqual(heights(NOUGHT), (-1, 0))
        self.assertEqual(heights(UNIT), (0, 0))
        self.assertEqual(heights(quotient([0, 0, 1], [1, 5])), (2, 1))
        self.assertEqual(heights(quotient([7], [1, 0, 0, 5])), (0, 3))
        for one in some_quotients("heights", 20, 12, 12, 6):
            told = heights(one)
            self.assertIs(type(told), tuple)
            self.assertEqual(told, (len(one[0]) - 1, len(one[1]) - 1))


class Values(unittest.TestCase):
    def test_examples(self):
        self.assertEqual(value(quotient([1], [1, -1]), (1, 2)), (2, 1))
        self.assertEqual(value(quotient([1, 1], [1, 0, 1]), (-2, 3)), (3, 13))
        self.assertEqual(value(quotient([-1, 1], [1, 1]), (1, 1)), (0, 1))

    def test_at_nought(self):
        self.assertEqual(value(quotient([Fraction(-5, 7), 3], [1, 9]), (0, 1)), (-5, 7))
        self.assertEqual(value(quotient([0, 3], [1, 9]), (0, 1)), (0, 1))
        self.assertEqual(value(NOUGHT, (0, 1)), (0, 1))

    def test_of_nought(self):
        for x in some_fractions("nought", 10, 40):
            self.assertEqual(value(NOUGHT, pair(x)), (0, 1))

    def test_at_a_pole(self):
        check_refusal(self, Pole, value, quotient([1], [1, -1]), (1, 1))
        check_refusal(self, Pole, value, quotient([0, 1], [1, 0, -9]), (1, 3))
        check_refusal(self, Pole, value, quotient([0, 1], [1, 0, -9]), (-1, 3))
        check_refusal(self, Pole, value, as_lists(quotient([1, 1], [1, -HALF])), (2, 1))
        self.assertEqual(value(quotient([0, 1], [1, 0, -9]), (2, 3)), (-2, 9))

    def test_against_fractions(self):
        for one in some_quotients("values", 20, 12, 12, 40):
            for x in some_fractions("at", 10, 40):
                below = value_of(one[1], pair(x))
                if below == 0:
                    check_refusal(self, Pole, value, one, pair(x))
                else:
                    told = value(one, pair(x))
                    self.assertTrue(is_plain_number(told), told)
                    self.assertEqual(fraction(told), value_of(one[0], pair(x)) / below)


class Rows(unittest.TestCase):
    def check_row(self, one, many):
        told = row_of(one, many)
        self.assertIs(type(told), list)
        self.assertEqual(told, [pair(number) for number in row_by_hand(one, many)])
        self.assertTrue(all(is_plain_number(number) for number in told))

    def test_examples(self):
        self.assertEqual(row_of(quotient([1], [1, -1]), 5), [(1, 1)] * 5)
        self.assertEqual(row_of(quotient([0, 1], [1, -1, -1]), 8), [(k, 1) for k in (0, 1, 1, 2, 3, 5, 8, 13)])
        self.assertEqual(row_of(quotient([1], [1, -HALF]), 4), [(1, 1), (1, 2), (1, 4), (1, 8)])
        self.assertEqual(row_of(quotient([THIRD], [1, 0, HALF]), 5), [(1, 3), (0, 1), (-1, 6), (0, 1), (1, 12)])
        self.assertEqual(row_of(quotient([1, 2, 3], [1]), 5), [(1, 1), (2, 1), (3, 1), (0, 1), (0, 1)])

    def test_no_places(self):
        for one in some_quotients("no places", 12, 6, 6, 6):
            self.assertEqual(row_of(one, 0), [])

    def test_fewer_places_than_the_top_has(self):
        self.assertEqual(row_of(quotient([1, 2, 3, 4], [1]), 2), [(1, 1), (2, 1)])
        self.assertEqual(row_of(quotient([1, 2, 3, 4], [1, 1]), 1), [(1, 1)])

    def test_of_nought(self):
        for many in (0, 1, 2, 100):
            self.assertEqual(row_of(NOUGHT, many), [(0, 1)] * many)

    def test_against_fractions(self):
        for one in some_quotients("rows", 30, 12, 12, 6):
            for many in (0, 1, 2, 13, 30):
                self.check_row(one, many)

    def test_belows_with_divisors_in_common_with_the_row(self):
        for below in ([1, HALF], [1, Fraction(1, 6), Fraction(3, 4)], [1, Fraction(4, 9), 0, Fraction(-8, 27)]):
            for top in ([1], [0, 6], [36, 54, HALF], [Fraction(5, 12), 0, Fraction(7, 18)]):
                self.check_row(quotient(top, below), 40)

    def test_a_hundred_places_of_forty_figures(self):
        values = [number or Fraction(1) for number in some_fractions("far", 25, 40)]
        self.check_row(quotient(values[:5], [1] + values[5:9]), 100)
        self.check_row(quotient(values[:13], [1] + values[13:25]), 30)


class Agreeing(unittest.TestCase):
    def test_nowhere(self):
        self.assertEqual(agrees([(1, 1)], NOUGHT), 0)
        self.assertEqual(agrees([(2, 1), (1, 1)], quotient([1], [1, -1])), 0)

    def test_in_part(self):
        self.assertEqual(agrees([(1, 1), (1, 1), (2, 1), (1, 1)], quotient([1], [1, -1])), 2)
        self.assertEqual(agrees([(0, 1), (0, 1), (1, 1), (0, 1)], NOUGHT), 2)
        self.assertEqual(agrees([(1, 1), (2, 1), (4, 1), (8, 1), (0, 1)], quotient([1], [1, -2])), 4)
        self.assertEqual(agrees([(1, 1), (2, 1), (4, 1), (8, 1), (0, 1)], quotient([1, 2], [1])), 2)

    def test_at_all_places(self):
        self.assertEqual(agrees([(1, 1)] * 24, quotient([1], [1, -1])), 24)
        self.assertEqual(agrees([(0, 1)] * 3, NOUGHT), 3)
        self.assertEqual(agrees([(1, 2)], quotient([HALF, 5, 6], [1])), 1)

    def test_to_each_place(self):
        for one in some_quotients("each place", 20, 4, 4, 12):
            row = row_of(one, 12)
            self.assertEqual(agrees(row, one), 12)
            for place in range(12):
                wrong = list(row)
                wrong[place] = pair(fraction(row[place]) + Fraction(1, 10**9))
                self.assertEqual(agrees(wrong, one), place)

    def test_what_agrees_again_further_on_does_not_count(self):
        self.assertEqual(agrees([(1, 1), (5, 1), (1, 1), (1, 1)], quotient([1], [1, -1])), 1)

    def test_against_fractions(self):
        rows = some_rows("agreeing", 40, 12, 2)
        for one in some_quotients("agreeing", 20, 3, 3, 2):
            for row in rows:
                self.assertEqual(agrees(row, one), agreement_by_hand(row, one))


class HandedIn(unittest.TestCase):
    """Lists stand for tuples, nothing handed in is changed, and what is told is new."""

    def test_lists_and_tuples(self):
        row = [(1, 1), (HALF.numerator, HALF.denominator), (1, 4), (3, 1)]
        for one in some_quotients("handed", 20, 6, 6, 6) + [quotient([1], [1, -HALF])]:
            for form in (one, as_lists(one), (list(one[0]), one[1]), [one[0], list(one[1])]):
                self.assertEqual(repr(told_without_change(self, quotient_of, form[0], form[1])), repr(one))
                self.assertEqual(told_without_change(self, heights, form), heights(one))
                self.assertEqual(told_without_change(self, row_of, form, 9), row_of(one, 9))
                if value_of(one[1], (5, 7)):
                    self.assertEqual(told_without_change(self, value, form, (5, 7)), value(one, (5, 7)))
                for form_of_row in (row, tuple(row)):
                    self.assertEqual(told_without_change(self, agrees, form_of_row, form), agrees(row, one))
                told_without_change(self, is_quotient, form)

    def test_told_lists_are_new(self):
        one = quotient([1], [1, -1])
        first = row_of(one, 3)
        second = row_of(one, 3)
        self.assertIsNot(first, second)
        first[0] = (7, 1)
        self.assertEqual(second, [(1, 1)] * 3)
        self.assertEqual(row_of(one, 3), [(1, 1)] * 3)
        self.assertIsNot(row_of(one, 0), row_of(one, 0))

    def test_a_list_changed_later_changes_nothing_told(self):
        top, below = [(1, 1), (2, 1)], [(1, 1), (5, 1)]
        told = (quotient_of(top, below), row_of((top, below), 3), heights((top, below)))
        kept = repr(told)
        top[0] = below[1] = (9, 1)
        below.append((3, 1))
        self.assertEqual(repr(told), kept)

    def test_told_things_may_be_handed_in_again(self):
        chance = random.Random("again")
        for one in some_quotients("again", 10, 4, 4, 20):
            row = row_of(one, 30)
            self.assertEqual(agrees(row, one), 30)
            x = row[chance.randrange(30)]
            if value_of(one[1], x):
                self.assertEqual(fraction(value(one, x)), value_of(one[0], x) / value_of(one[1], x))

    def test_arguments_bear_their_names(self):
        one = quotient([1], [1, -1])
        self.assertIs(is_quotient(thing=one), True)
        self.assertEqual(quotient_of(top=one[0], below=one[1]), one)
        self.assertEqual(heights(one=one), (0, 1))
        self.assertEqual(value(one=one, x=(1, 2)), (2, 1))
        self.assertEqual(row_of(one=one, many=2), [(1, 1), (1, 1)])
        self.assertEqual(agrees(row=[(1, 1), (2, 1)], one=one), 1)


if __name__ == "__main__":
    unittest.main()

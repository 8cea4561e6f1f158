import unittest
from fractions import Fraction

from farquotient.polys import (
    common,
    degree,
    is_poly,
    parted,
    poly,
    poly_less,
    poly_product,
    poly_sum,
    slopes_of,
    value_at,
)
from tests.helper import (
    NEITHER,
    factor_of,
    fraction,
    fractions_of,
    is_plain_number,
    is_plain_polynomial,
    pair,
    polynomial,
    product_of,
    product_of_roots,
    rest_of,
    some_fractions,
    some_polynomials,
    sum_of,
    told_without_change,
    value_of,
)

NOUGHT = ()
UNIT = ((1, 1),)
HALF = Fraction(1, 2)
THIRD = Fraction(1, 3)


class PolyCase(unittest.TestCase):
    def check_poly(self, told, awaited):
        self.assertTrue(is_plain_polynomial(told), told)
        self.assertEqual(told, awaited)


class Making(PolyCase):
    def test_noughts_at_the_end_fall_off(self):
        self.check_poly(poly([(1, 1), (0, 1)]), ((1, 1),))
        self.check_poly(poly([(1, 2), (-3, 1), (0, 1), (0, 1), (0, 1)]), ((1, 2), (-3, 1)))

    def test_noughts_ahead_and_between_stay(self):
        self.check_poly(poly([(0, 1), (0, 1), (5, 1)]), ((0, 1), (0, 1), (5, 1)))
        self.check_poly(poly([(1, 1), (0, 1), (2, 3), (0, 1)]), ((1, 1), (0, 1), (2, 3)))

    def test_noughts_alone_and_none_at_all(self):
        self.check_poly(poly([]), NOUGHT)
        self.check_poly(poly(()), NOUGHT)
        for many in (1, 2, 13):
            self.check_poly(poly([(0, 1)] * many), NOUGHT)

    def test_lists_and_tuples(self):
        for one in some_polynomials("making", 30, 12, 40):
            for ending in ([], [(0, 1)], [(0, 1)] * 3):
                self.check_poly(poly(list(one) + ending), one)
                self.check_poly(poly(one + tuple(ending)), one)


class Asking(PolyCase):
    def test_polynomials_are(self):
        for thing in (NOUGHT, UNIT, ((-1, 2),), ((0, 1), (1, 1)), ((0, 1), (0, 1), (-7, 3)), polynomial(*range(13))):
            self.assertIs(is_poly(thing), True, thing)

    def test_what_poly_tells_is(self):
        for one in some_polynomials("asking", 30, 12, 40):
            self.assertIs(is_poly(poly(list(one) + [(0, 1)])), True)

    def test_nothing_else_is(self):
        for thing in NEITHER:
            self.assertIs(is_poly(thing), False, thing)

    def test_no_number_is(self):
        for value in some_fractions("no number", 30, 40):
            self.assertIs(is_poly(pair(value)), False)

    def test_lists_are_none(self):
        for one in some_polynomials("lists", 30, 12, 10):
            self.assertIs(is_poly(list(one)), False)
            if one:
                self.assertIs(is_poly(tuple(list(number) for number in one)), False)

    def test_a_nought_last_is_none(self):
        for one in some_polynomials("nought last", 30, 12, 10):
            self.assertIs(is_poly(one + ((0, 1),)), False)

    def test_a_wrong_number_at_any_place_is_seen(self):
        for wrong in ((2, 4), (0, 2), (1, -1), (True, 1), (1, True), [1, 1], 1, None, "1", ((1, 1),)):
            for place in range(5):
                thing = list(polynomial(1, 2, 3, 4, 5))
                thing[place] = wrong
                self.assertIs(is_poly(tuple(thing)), False, thing)


class Degrees(PolyCase):
    def test_degree(self):
        self.assertEqual(degree(NOUGHT), -1)
        self.assertEqual(degree([]), -1)
        self.assertEqual(degree(UNIT), 0)
        self.assertEqual(degree(((0, 1), (1, 1))), 1)
        for many in range(1, 14):
            self.assertEqual(degree(polynomial(*range(1, many + 1))), many - 1)


class Sums(PolyCase):
    def test_last_numbers_fall_off(self):
        self.check_poly(poly_sum(polynomial(1, 2, 3), polynomial(1, 2, -3)), polynomial(2, 4))
        self.check_poly(poly_sum(polynomial(1, 2, 3), polynomial(1, -2, -3)), polynomial(2))
        self.check_poly(poly_sum(polynomial(1, 2, 3), polynomial(-1, -2, -3)), NOUGHT)
        self.check_poly(poly_less(polynomial(1, 2, 3), polynomial(4, 5, 3)), polynomial(-3, -3))
        self.check_poly(poly_less(polynomial(0, HALF), polynomial(0, HALF)), NOUGHT)

    def test_unlike_degrees(self):
        self.check_poly(poly_sum(polynomial(1), polynomial(0, 0, 1)), polynomial(1, 0, 1))
        self.check_poly(poly_sum(polynomial(0, 0, 1), polynomial(1)), polynomial(1, 0, 1))
        self.check_poly(poly_less(polynomial(1), polynomial(0, 0, 1)), polynomial(1, 0, -1))
        self.check_poly(poly_less(polynomial(0, 0, 1), polynomial(1)), polynomial(-1, 0, 1))

    def test_nought(self):
        one = polynomial(HALF, 0, -3)
        self.check_poly(poly_sum(one, NOUGHT), one)
        self.check_poly(poly_sum(NOUGHT, one), one)
        self.check_poly(poly_less(one, NOUGHT), one)
        self.check_poly(poly_less(NOUGHT, one), polynomial(-HALF, 0, 3))
        self.check_poly(poly_sum(NOUGHT, NOUGHT), NOUGHT)
        self.check_poly(poly_less(NOUGHT, NOUGHT), NOUGHT)

    def test_against_fractions(self):
        ones = some_polynomials("sums", 30, 12, 40)
        for one in ones:
            for other in ones:
                self.check_poly(poly_sum(one, other), sum_of(one, other))
                self.check_poly(poly_less(one, other), sum_of(one, other, -1))


class Products(PolyCase):
    def test_examples(self):
        self.check_poly(poly_product(polynomial(1, 1), polynomial(-1, 1)), polynomial(-1, 0, 1))
        self.check_poly(poly_product(polynomial(HALF), polynomial(2, 0, 4)), polynomial(1, 0, 2))
        self.check_poly(poly_product(polynomial(0, 1), polynomial(0, 0, THIRD)), polynomial(0, 0, 0, THIRD))

    def test_nought_leaves_nothing(self):
        for one in (NOUGHT, UNIT, polynomial(1, 2, 3)):
            self.check_poly(poly_product(one, NOUGHT), NOUGHT)
            self.check_poly(poly_product(NOUGHT, one), NOUGHT)

    def test_against_fractions(self):
        ones = some_polynomials("products", 20, 12, 40)
        for one in ones:
            for other in ones:
                told = poly_product(one, other)
                self.check_poly(told, product_of(one, other))
                if one and other:
                    self.assertEqual(degree(told), degree(one) + degree(other))


class Values(PolyCase):
    def test_at_nought(self):
        self.assertEqual(value_at(polynomial(Fraction(-5, 7), 2, 3), (0, 1)), (-5, 7))
        self.assertEqual(value_at(polynomial(0, 2), (0, 1)), (0, 1))

    def test_of_nought_and_of_numbers_alone(self):
        for value in some_fractions("values", 10, 40):
            self.assertEqual(value_at(NOUGHT, pair(value)), (0, 1))
            self.assertEqual(value_at(polynomial(HALF), pair(value)), (1, 2))

    def test_at_roots(self):
        one = product_of_roots(1, -2, HALF, -THIRD)
        for root in (1, -2, HALF, -THIRD):
            self.assertEqual(value_at(one, pair(root)), (0, 1))

    def test_at_fractions(self):
        self.assertEqual(value_at(polynomial(1, 1, 1), (-2, 3)), (7, 9))
        for one in some_polynomials("values", 20, 12, 40):
            for value in some_fractions("at", 12, 40):
                told = value_at(one, pair(value))
                self.assertTrue(is_plain_number(told), told)
                self.assertEqual(fraction(told), value_of(one, pair(value)))


class Parting(PolyCase):
    def check_parting(self, one, other):
        told = parted(one, other)
        self.assertIs(type(told), tuple)
        self.assertEqual(len(told), 2)
        often, rest = told
        self.assertTrue(is_plain_polynomial(often), often)
        self.check_poly(rest, rest_of(one, other))
        self.assertLess(len(rest), len(other))
        self.assertEqual(sum_of(product_of(often, other), rest), one)

    def test_without_a_rest(self):
        self.assertEqual(parted(polynomial(-1, 0, 1), polynomial(1, 1)), (polynomial(-1, 1), NOUGHT))
        self.assertEqual(parted(polynomial(0, 0, 0, 1), polynomial(0, 2)), (polynomial(0, 0, HALF), NOUGHT))

    def test_with_a_rest(self):
        self.assertEqual(parted(polynomial(1, 0, 1), polynomial(1, 1)), (polynomial(-1, 1), polynomial(2)))
        self.assertEqual(
            parted(polynomial(1, 2, 0, 0, 1), polynomial(1, 0, 2)),
            (polynomial(Fraction(-1, 4), 0, HALF), polynomial(Fraction(5, 4), 2)),
        )

    def test_of_a_lesser_degree(self):
        self.assertEqual(parted(polynomial(1, 2), polynomial(1, 0, 2)), (NOUGHT, polynomial(1, 2)))
        self.assertEqual(parted(polynomial(3), polynomial(0, 1)), (NOUGHT, polynomial(3)))

    def test_by_numbers_alone(self):
        self.assertEqual(parted(polynomial(1, 2, 3), polynomial(-2)), (polynomial(-HALF, -1, Fraction(-3, 2)), NOUGHT))
        self.assertEqual(parted(polynomial(5), polynomial(5)), (UNIT, NOUGHT))

    def test_of_nought(self):
        for other in (UNIT, polynomial(0, 1), polynomial(1, 2, 3)):
            self.assertEqual(parted(NOUGHT, other), (NOUGHT, NOUGHT))

    def test_against_fractions(self):
        ones = some_polynomials("parting", 24, 12, 12)
        for one in ones:
            for other in ones:
                if other:
                    self.check_parting(one, other)

    def test_of_forty_figures(self):
        ones = [one for one in some_polynomials("parting far", 12, 12, 40) if one]
        for one in ones:
            for other in ones:
                self.check_parting(one, other)

    def test_products_leave_no_rest(self):
        ones = [one for one in some_polynomials("parting back", 12, 6, 20) if one]
        for one in ones:
            for other in ones:
                self.assertEqual(parted(product_of(one, other), other), (one, NOUGHT))


class Common(PolyCase):
    def check_common(self, one, other, awaited):
        self.check_poly(common(one, other), awaited)
        self.check_poly(common(other, one), awaited)

    def test_examples(self):
        self.check_common(polynomial(-1, 0, 1), polynomial(1, 2, 1), polynomial(1, 1))
        self.check_common(polynomial(0, 2), polynomial(0, 0, 3), polynomial(0, 1))
        self.check_common(polynomial(2, 4), polynomial(HALF, 1), polynomial(HALF, 1))

    def test_factors_known_ahead(self):
        known = product_of_roots(1, 1, HALF, -THIRD)
        one = product_of(known, product_of_roots(2, 3, Fraction(5, 7), 0))
        other = product_of(known, product_of_roots(-2, -3, -5, -7, -9, 4, 6, 8))
        self.assertEqual(degree(other), 12)
        self.check_common(one, other, known)
        self.check_common(product_of(one, polynomial(Fraction(-6, 5))), product_of(other, polynomial(77)), known)

    def test_factors_of_every_degree(self):
        roots = [Fraction(k, 3) for k in range(1, 13)]
        for many in range(13):
            known = product_of_roots(*roots[:many])
            one = product_of(known, product_of_roots(*[-root for root in roots[many:]]))
            other = product_of(known, product_of_roots(*[root + HALF for root in roots[many:]]))
            self.check_common(one, other, known)
            self.check_common(one, known, known)
            self.check_common(one, product_of(polynomial(-4), one), one)

    def test_without_a_common_factor(self):
        self.check_common(polynomial(1, 1), polynomial(2, 1), UNIT)
        self.check_common(polynomial(1, 0, 1), polynomial(-1, 0, 1), UNIT)
        self.check_common(product_of_roots(*range(12)), product_of_roots(*range(12, 24)), UNIT)

    def test_numbers_alone(self):
        self.check_common(polynomial(-3), polynomial(5), UNIT)
        self.check_common(polynomial(-3), polynomial(1, 2, 3), UNIT)

    def test_of_nought_and_another(self):
        self.check_common(NOUGHT, polynomial(1, -2), polynomial(-HALF, 1))
        self.check_common(NOUGHT, polynomial(-7), UNIT)
        self.check_common(NOUGHT, polynomial(6, 0, 4), polynomial(Fraction(3, 2), 0, 1))

    def test_of_two_noughts(self):
        self.check_common(NOUGHT, NOUGHT, NOUGHT)

    def test_rests_that_fall_by_several_degrees(self):
        for high in range(1, 13):
            for low in range(1, high + 1):
                one = polynomial(*([-1] + [0] * (high - 1) + [2]))
                other = polynomial(*([-1] + [0] * (low - 1) + [2]))
                known = polynomial(1, HALF, 0, -THIRD)
                self.check_common(one, other, factor_of(one, other))
                one, other = product_of(one, known), product_of(other, known)
                self.check_common(one, other, factor_of(one, other))

    def test_against_euclid(self):
        ones = some_polynomials("common", 24, 6, 6)
        shared = some_polynomials("shared", 8, 6, 6)
        for place, one in enumerate(ones):
            for other in ones[place:]:
                for factor in (UNIT, shared[place % len(shared)]):
                    left, right = product_of(one, factor), product_of(other, factor)
                    self.check_common(left, right, factor_of(left, right))

    def test_of_forty_figures_and_degree_twelve(self):
        values = [value or Fraction(1) for value in some_fractions("far", 26, 40)]
        one, other = polynomial(*values[:13]), polynomial(*values[13:])
        self.check_common(one, other, UNIT)
        known = polynomial(*values[3:7], 1)
        self.check_common(product_of(polynomial(*values[7:16]), known), product_of(polynomial(*values[16:25]), known), known)

    def test_numbers_that_a_great_prime_goes_into(self):
        prime = 2**61 - 1
        for one, other in (
            (polynomial(-1, 1), polynomial(-1 - prime, 1)),
            (polynomial(-1, 1), polynomial(-1, prime + 1)),
            (polynomial(1, prime), polynomial(1, 2, prime)),
            (polynomial(prime, 1), polynomial(0, 1)),
            (polynomial(prime), polynomial(0, prime)),
            (polynomial(1, Fraction(1, prime)), polynomial(2, 1)),
            (polynomial(2, 1), polynomial(Fraction(-3, prime), 1)),
            (polynomial(1, prime), polynomial(1, 2 * prime)),
        ):
            self.check_common(one, other, UNIT)
            for known in (product_of_roots(HALF), polynomial(Fraction(1, prime), 1), polynomial(0, 0, 1)):
                self.check_common(product_of(one, known), product_of(other, known), known)
                self.check_common(product_of(one, known), known, known)

    def test_what_is_told_may_be_handed_in_again(self):
        known = common(product_of_roots(1, 2, HALF), product_of_roots(2, HALF, 9))
        self.check_common(known, product_of_roots(HALF, 5), product_of_roots(HALF))


class Slopes(PolyCase):
    def test_examples(self):
        self.check_poly(slopes_of(polynomial(7, 1, 1, 1)), polynomial(1, 2, 3))
        self.check_poly(slopes_of(polynomial(0, 0, HALF)), polynomial(0, 1))
        self.check_poly(slopes_of(polynomial(1, 0, 0, 0, Fraction(-3, 8))), polynomial(0, 0, 0, Fraction(-3, 2)))

    def test_nought_and_numbers_alone(self):
        self.check_poly(slopes_of(NOUGHT), NOUGHT)
        self.check_poly(slopes_of(UNIT), NOUGHT)
        self.check_poly(slopes_of(polynomial(Fraction(-2, 9))), NOUGHT)

    def test_against_fractions(self):
        for one in some_polynomials("slopes", 40, 12, 40):
            awaited = polynomial(*[power * value for power, value in enumerate(fractions_of(one))][1:])
            self.check_poly(slopes_of(one), awaited)


class HandedIn(PolyCase):
    """Lists stand for tuples, nothing handed in is changed, and tuples are told."""

    def check_deed(self, deed, one, other):
        told = told_without_change(self, deed, one, other)
        for left in (one, list(one)):
            for right in (other, list(other)):
                again = told_without_change(self, deed, left, right)
                self.assertEqual(repr(again), repr(told))

    def test_two_polynomials(self):
        ones = some_polynomials("handed", 12, 12, 12)
        for one in ones:
            for other in ones:
                for deed in (poly_sum, poly_less, poly_product, common):
                    self.check_deed(deed, one, other)
                    self.assertTrue(is_plain_polynomial(deed(list(one), list(other))))
                if other:
                    self.check_deed(parted, one, other)
                    often, rest = parted(list(one), list(other))
                    self.assertTrue(is_plain_polynomial(often) and is_plain_polynomial(rest))

    def test_one_polynomial(self):
        for one in some_polynomials("handed too", 20, 12, 12):
            for deed in (poly, degree, slopes_of, is_poly):
                told_without_change(self, deed, one)
                told_without_change(self, deed, list(one))
            for deed in (poly, degree, slopes_of):
                self.assertEqual(repr(deed(list(one))), repr(deed(one)))
            for x in ((0, 1), (-2, 3)):
                told_without_change(self, value_at, one, x)
                self.assertEqual(told_without_change(self, value_at, list(one), x), value_at(one, x))

    def test_a_list_changed_later_changes_nothing_told(self):
        row = [(1, 1), (2, 1)]
        told = (poly(row), poly_sum(row, []), poly_less(row, []), parted(row, [(0, 1), (0, 1), (1, 1)]), common(row, []))
        kept = repr(told)
        row[0] = (9, 1)
        row.append((5, 1))
        self.assertEqual(repr(told), kept)


class Interface(PolyCase):
    def test_arguments_bear_their_names(self):
        one, other = polynomial(-1, 0, 1), polynomial(1, 1)
        self.assertIs(is_poly(thing=one), True)
        self.assertEqual(poly(numbers=[(1, 1), (0, 1)]), UNIT)
        self.assertEqual(degree(one=one), 2)
        self.assertEqual(poly_sum(one=one, other=other), polynomial(0, 1, 1))
        self.assertEqual(poly_less(one=one, other=other), polynomial(-2, -1, 1))
        self.assertEqual(poly_product(one=one, other=other), polynomial(-1, -1, 1, 1))
        self.assertEqual(value_at(one=one, x=(3, 1)), (8, 1))
        self.assertEqual(parted(one=one, other=other), (polynomial(-1, 1), NOUGHT))
        self.assertEqual(common(one=one, other=other), polynomial(1, 1))
        self.assertEqual(slopes_of(one=one), polynomial(0, 2))


if __name__ == "__main__":
    unittest.main()

import random
import unittest
from fractions import Fraction

from farquotient.equations import furthest
from farquotient.roots import poles, root_bounds, roots_between, shows_roots
from tests.helper import (
    NEITHER,
    as_lists,
    fraction,
    is_plain_number,
    pair,
    polynomial,
    product_of,
    product_of_roots,
    quotient,
    some_fractions,
    some_quotients,
    told_without_change,
)

HALF = Fraction(1, 2)
THIRD = Fraction(1, 3)
WIDES = ((1000, 1), (1, 1), (1, 7), (1, 1000), (1, 10**12))
NO_ROOT = polynomial(1, 0, 1)

# Lists of roots: single, manifold, close to one another and far apart, below and above nought, and nought itself.
ROOTS = (
    [], [0], [5], [-HALF], [1, 2], [0, 1, 2, 3], [-1, 1], [HALF, THIRD, Fraction(1, 4)],
    [1, 1], [2, 2, 2], [0, 0], [0, 0, 0, 1], [1, 1, 2, 2], [-3, -3, -3, HALF, HALF, 7],
    [1, Fraction(1001, 1000)], [1, 1 + Fraction(1, 10**9), 1 + Fraction(2, 10**9)], [THIRD, Fraction(3334, 10000)],
    [-(10**12), 10**12], [Fraction(1, 10**12), 10**12], [10**40 - 1, -(10**40) + 1], [Fraction(1, 10**20), 0],
    [1, 2, 3, 4, 5, 6, 7, 8], [Fraction(1, k) for k in range(1, 9)], [-1, -1, 0, 0, 1, 1, 2, 2],
)


def some_polynomials_with_roots():
    """Pairs of a polynomial of degree 8 at most and the sorted list of its unlike roots."""
    for roots in ROOTS:
        one = product_of_roots(*roots)
        for more in (polynomial(1), polynomial(Fraction(-3, 7)), NO_ROOT, product_of(NO_ROOT, polynomial(5, 0, 2))):
            if len(one) + len(more) - 2 <= 8:
                yield product_of(one, more), sorted(set(map(Fraction, roots)))


def count_by_hand(roots, low, high):
    return sum(fraction(low) < root <= fraction(high) for root in roots)


def rest_by_hand(one, other):
    rest = list(one)
    while len(rest) >= len(other):
        weight, shift = rest[-1] / other[-1], len(rest) - len(other)
        for k, each in enumerate(other):
            rest[shift + k] -= weight * each
        while rest and rest[-1] == 0:
            rest.pop()
    return rest


def chain_by_hand(values):
    """A polynomial of fractions, its slopes, and each time what the last but one leaves by the last, turned."""
    chain = [values, [k * each for k, each in enumerate(values)][1:]]
    while chain[-1]:
        chain.append([-each for each in rest_by_hand(chain[-2], chain[-1])])
    return chain[:-1]


def changes_by_hand(chain, x):
    values = [sum(each * x**k for k, each in enumerate(one)) for one in chain]
    signs = [value > 0 for value in values if value]
    return sum(one != other for one, other in zip(signs, signs[1:]))


class RootsBetween(unittest.TestCase):
    def test_examples(self):
        one = product_of_roots(1, 2, 3)
        self.assertEqual(repr(roots_between(one, (0, 1), (5, 1))), "3")
        self.assertEqual(roots_between(one, (1, 1), (3, 1)), 2)
        self.assertEqual(roots_between(one, (1, 1), (5, 2)), 1)
        self.assertEqual(roots_between(one, (3, 1), (5, 1)), 0)
        self.assertEqual(roots_between(polynomial(-2, 0, 1), (1, 1), (3, 2)), 1)
        self.assertEqual(roots_between(polynomial(-2, 0, 1), (-3, 2), (3, 2)), 2)
        self.assertEqual(roots_between(polynomial(2, 0, 1), (-100, 1), (100, 1)), 0)

    def test_degree_nought(self):
        for number in (1, -5, HALF, Fraction(-2, 3)):
            self.assertEqual(roots_between(polynomial(number), (-5, 1), (5, 1)), 0)
            self.assertEqual(roots_between(polynomial(number), (0, 1), (1, 10**40)), 0)

    def test_manifold_roots_count_once(self):
        for many in range(1, 9):
            one = product_of_roots(*[THIRD] * many)
            self.assertEqual(roots_between(one, (0, 1), (1, 1)), 1)
            self.assertEqual(roots_between(one, (1, 3), (1, 1)), 0)
            self.assertEqual(roots_between(one, (0, 1), (1, 3)), 1)

    def test_bounds_at_roots_and_beside_them(self):
        tiny = Fraction(1, 10**15)
        for one, roots in some_polynomials_with_roots():
            ends = sorted({end for root in roots for end in (root - tiny, root, root + tiny)} | {Fraction(-9), Fraction(9)})
            for low in ends[::2]:
                for high in ends[::3]:
                    if low < high:
                        told = roots_between(one, pair(low), pair(high))
                        self.assertIs(type(told), int)
                        self.assertEqual(told, count_by_hand(roots, pair(low), pair(high)), (roots, low, high))

    def test_all_bounds_of_one_polynomial(self):
        roots = [Fraction(-3), Fraction(-1, 2), Fraction(0), Fraction(2)]
        one = product_of(product_of_roots(-3, -HALF, -HALF, 0, 2, 2, 2), polynomial(-7))
        ends = [Fraction(k, 4) for k in range(-14, 12)]
        for low in ends:
            for high in ends:
                if low < high:
                    told = roots_between(one, pair(low), pair(high))
                    self.assertEqual(told, count_by_hand(roots, pair(low), pair(high)))

    def test_any_sign_of_the_first_and_last_numbers(self):
        for scale in (1, -1, HALF, Fraction(-7, 3), 10**39, Fraction(-1, 10**39)):
            for roots in ([1, 2], [-1, 2], [-1, -2, 5], [1, 2, 3, -4], [0, 1, -1, 2, -2]):
                one = product_of(product_of_roots(*roots), polynomial(scale))
                self.assertEqual(roots_between(one, (-10, 1), (10, 1)), len(roots))
                self.assertEqual(roots_between(one, (0, 1), (10, 1)), len([root for root in roots if root > 0]))

    def test_rests_that_fall_by_several_degrees(self):
        # x to a power less a number: its slopes leave a number at once.
        for high in range(1, 9):
            for number in (2, -2, 1, -1, 5):
                one = polynomial(*[-number] + [0] * (high - 1) + [1])
                above, below = int(number > 0), int(number > 0 if high % 2 == 0 else number < 0)
                self.assertEqual(roots_between(one, (0, 1), (10, 1)), above)
                self.assertEqual(roots_between(one, (-10, 1), (0, 1)), below)
        for middle in range(1, 8):
            one = polynomial(*[-1] + [0] * (middle - 1) + [-1] + [0] * (7 - middle) + [1])
            self.assertEqual(roots_between(one, (0, 1), (10, 1)), 1)

    def test_against_a_chain_of_fractions(self):
        # Many noughts between make the rests fall by several degrees at once, with either sign of the last number.
        chance = random.Random("sparse")
        ends = [Fraction(k, 3) for k in (-13, -7, -4, -2, -1, 1, 2, 4, 7, 13)]
        for count in range(600):
            values = [Fraction(chance.choice((-3, -1, 0, 0, 0, 0, 1, 2))) for power in range(chance.randint(2, 9))]
            values[-1] = Fraction(chance.choice((-2, -1, 1, 2)))
            chain = chain_by_hand(values)
            if len(chain[-1]) == 1:
                told = [roots_between(polynomial(*values), pair(low), pair(high)) for low, high in zip(ends, ends[1:])]
                changes = [changes_by_hand(chain, x) for x in ends]
                self.assertEqual(told, [left - right for left, right in zip(changes, changes[1:])], values)

    def test_forty_figures(self):
        values = [value or Fraction(1) for value in some_fractions("forty", 9, 40)]
        one = polynomial(*values)
        told = root_bounds(one, (1, 10**10))
        self.assertEqual(roots_between(one, (-(10**80), 1), (10**80, 1)), len(told))
        for low, high in told:
            self.assertEqual(roots_between(one, low, high), 1)


class RootBounds(unittest.TestCase):
    def check_bounds(self, one, roots, wide):
        told = root_bounds(one, wide)
        self.assertIs(type(told), list)
        self.assertEqual(len(told), len(roots), (roots, wide))
        for each, root in zip(told, roots):
            self.assertIs(type(each), tuple)
            self.assertEqual(len(each), 2)
            self.assertTrue(is_plain_number(each[0]) and is_plain_number(each[1]), each)
            low, high = fraction(each[0]), fraction(each[1])
            self.assertLess(low, high)
            self.assertLessEqual(high - low, fraction(wide))
            self.assertTrue(low < root <= high, (roots, each))
        for ahead, behind in zip(told, told[1:]):
            self.assertLessEqual(fraction(ahead[1]), fraction(behind[0]))
        self.assertIs(shows_roots(one, wide, told), True)

    def test_known_roots(self):
        for one, roots in some_polynomials_with_roots():
            for wide in WIDES:
                self.check_bounds(one, roots, wide)

    def test_very_wide_and_very_narrow(self):
        for roots in ([], [0], [1, 2], [HALF, HALF, -7], [1, 1 + Fraction(1, 10**30)]):
            for wide in ((10**40, 1), (10**40 - 1, 7), (1, 10**40 - 1), (3, 10**39)):
                self.check_bounds(product_of_roots(*roots), sorted(set(map(Fraction, roots))), wide)

    def test_no_roots(self):
        for one in (polynomial(1), polynomial(-HALF), NO_ROOT, polynomial(5, 1, 1), product_of(NO_ROOT, NO_ROOT)):
            for wide in WIDES:
                self.assertEqual(repr(root_bounds(one, wide)), "[]")

    def test_roots_that_are_no_fractions(self):
        for square in (2, 3, HALF, Fraction(22, 7)):
            one = polynomial(-square, 0, 1)
            for wide in WIDES[1:]:
                told = root_bounds(one, wide)
                self.assertEqual(len(told), 2)
                for low, high in told:
                    low, high = fraction(low), fraction(high)
                    self.assertTrue(0 < high - low <= fraction(wide))
                    self.assertLess((low * low - square) * (high * high - square), 0)

    def test_close_roots_of_degree_eight(self):
        # Two roots of x to the power 8 less 2 times (a x less 1) squared lie very close to 1 over a.
        a = 10**9
        one = polynomial(-2, 4 * a, -2 * a * a, 0, 0, 0, 0, 0, 1)
        told = root_bounds(one, (1, 1))
        self.assertEqual(len(told), 4)
        self.assertIs(shows_roots(one, (1, 1), told), True)
        near = [high for low, high in told if abs(fraction(high) - Fraction(1, a)) < Fraction(1, 10**20)]
        self.assertEqual(len(near), 2)


class ShowsRoots(unittest.TestCase):
    def check_no(self, one, wide, thing):
        self.assertIs(told_without_change(self, shows_roots, one, wide, thing), False, thing)

    def setUp(self):
        self.ones = [(product_of_roots(*roots), len(set(roots))) for roots in ROOTS if 2 <= len(roots) <= 6]

    def test_lists_and_tuples(self):
        for one, roots in some_polynomials_with_roots():
            told = root_bounds(one, (1, 7))
            for thing in (told, tuple(told), [list(each) for each in told], tuple(list(each) for each in told)):
                self.assertIs(told_without_change(self, shows_roots, one, (1, 7), thing), True)
                self.assertIs(shows_roots(list(one), (1, 7), thing), True)

    def test_left_out_twice_exchanged(self):
        for one, many in self.ones:
            for wide in ((1, 1), (1, 10**10)):
                told = root_bounds(one, wide)
                for k, each in enumerate(told):
                    self.check_no(one, wide, told[:k] + told[k + 1 :])
                    self.check_no(one, wide, told[:k] + [each] + told[k:])
                    self.check_no(one, wide, told + [each])
                for k in range(len(told) - 1):
                    self.check_no(one, wide, told[:k] + [told[k + 1], told[k]] + told[k + 2 :])
                self.check_no(one, wide, told[::-1] if len(told) > 1 else [])

    def test_moved_too_wide_and_turned_about(self):
        one, wide = product_of_roots(-1, HALF, 3), (1, 4)
        told = [((-5, 4), (-1, 1)), ((1, 4), (1, 2)), ((3, 1), (13, 4))]
        # The last pair begins at its root, which doesn't count there.
        self.check_no(one, wide, told)
        told[2] = ((11, 4), (3, 1))
        self.assertIs(shows_roots(one, wide, told), True)
        for pairs in (
            [((-1, 1), (-3, 4)), told[1], told[2]], [((-3, 2), (-5, 4)), told[1], told[2]],
            [told[0], ((1, 2), (3, 4)), told[2]], [told[0], ((0, 1), (1, 4)), told[2]],
            [told[0], told[1], ((27, 10), (3, 1))], [told[0], ((1, 5), (1, 2)), told[2]],
            [told[0], told[1], ((3, 1), (11, 4))], [told[0][::-1], told[1], told[2]],
            [told[0], ((1, 2), (1, 2)), told[2]], [told[0], told[1], ((3, 1), (3, 1))],
        ):
            self.check_no(one, wide, pairs)
        # Just as wide as may be, and no wider.
        self.assertIs(shows_roots(one, (1, 4), [told[0], ((3, 8), (5, 8)), told[2]]), True)
        self.check_no(one, (1, 4), [told[0], ((3, 8), (313, 500)), told[2]])
        self.check_no(one, (249, 1000), told)

    def test_neighbours_that_touch_and_that_overlap(self):
        one = product_of_roots(1, 2)
        self.assertIs(shows_roots(one, (1, 1), [((0, 1), (1, 1)), ((1, 1), (2, 1))]), True)
        self.assertIs(shows_roots(one, (1, 1), [((1, 2), (3, 2)), ((3, 2), (5, 2))]), True)
        self.check_no(one, (2, 1), [((1, 2), (3, 2)), ((5, 4), (5, 2))])
        self.check_no(one, (2, 1), [((1, 2), (7, 4)), ((5, 4), (5, 2))])
        self.check_no(one, (9, 1), [((0, 1), (1, 1)), ((0, 1), (2, 1))])

    def test_two_put_into_one_and_pairs_without_a_root(self):
        one = product_of_roots(1, 2)
        self.check_no(one, (9, 1), [((0, 1), (2, 1))])
        self.check_no(one, (9, 1), [((0, 1), (2, 1)), ((2, 1), (3, 1))])
        self.check_no(one, (9, 1), [((-1, 1), (0, 1)), ((0, 1), (1, 1)), ((1, 1), (2, 1))])
        self.check_no(one, (9, 1), [((0, 1), (1, 1)), ((2, 1), (3, 1))])
        self.check_no(one, (9, 1), [((0, 1), (1, 1)), ((1, 1), (3, 2)), ((3, 2), (2, 1))])
        self.assertIs(shows_roots(one, (9, 1), [((0, 1), (1, 1)), ((1, 1), (2, 1))]), True)

    def test_none(self):
        for one in (polynomial(1), polynomial(-HALF), NO_ROOT):
            for thing in ([], ()):
                self.assertIs(shows_roots(one, (1, 1), thing), True)
            self.check_no(one, (1, 1), [((0, 1), (1, 1))])
        for thing in ([], ()):
            self.check_no(product_of_roots(1), (1, 1), thing)

    def test_numbers_not_in_their_form(self):
        one, wide = product_of_roots(1), (5, 1)
        self.assertIs(shows_roots(one, wide, [((0, 1), (1, 1))]), True)
        for low in ((0, 2), (0, -1), [0, 1], (False, 1), (0, True), 0, None, "0", (0,), (0, 1, 1), (0, 0), ((0, 1), (1, 1))):
            self.check_no(one, wide, [(low, (1, 1))])
            self.check_no(one, wide, [[low, (1, 1)]])
        for high in ((2, 2), (-1, -1), [1, 1], (True, 1), (1, True), 1, True, None, "1", (1,), (1, 1, 1), (1, 0), ()):
            self.check_no(one, wide, [((0, 1), high)])
            self.check_no(one, wide, ([(0, 1), high],))

    def test_things_of_other_kinds(self):
        one, wide = product_of_roots(1), (5, 1)
        for thing in NEITHER:
            self.check_no(one, wide, thing)
            self.check_no(one, wide, [thing])
            self.check_no(one, wide, [((0, 1), (1, 1)), thing])
            self.check_no(one, wide, [thing, ((0, 1), (1, 1))])
            self.check_no(NO_ROOT, wide, [thing])
        for thing in (None, "", "ab", 0, True, False, ((0, 1), (1, 1)), [(0, 1), (1, 1)], [((0, 1),)], [()], [[]],
                      [((0, 1), (1, 1), (1, 1))], [[((0, 1), (1, 1))]], ["ab"], [None]):
            self.check_no(one, wide, thing)

    def test_of_great_numbers(self):
        great = 10**600
        one = product_of_roots(1)
        self.assertIs(shows_roots(one, (2, 1), [((1 - great, great), (1 + great, great))]), True)
        self.check_no(one, (1, 1), [((1 - great, great), (1 + great, great))])


class Poles(unittest.TestCase):
    def test_examples(self):
        self.assertEqual(poles(quotient([1], [1]), (1, 1)), [])
        self.assertEqual(poles(quotient([1, 2, 3], [1]), (1, 100)), [])
        self.assertEqual(poles(quotient([], [1]), (1, 100)), [])
        told = poles(quotient([1], [1, -2]), (1, 8))
        self.assertEqual(len(told), 1)
        self.assertTrue(fraction(told[0][0]) < HALF <= fraction(told[0][1]))

    def test_they_are_the_bounds_of_the_below(self):
        for one in some_quotients("poles", 30, 4, 6, 3):
            for wide in WIDES[1:4]:
                told = told_without_change(self, poles, one, wide)
                self.assertIs(shows_roots(one[1], wide, told), True)
                self.assertEqual(told, root_bounds(one[1], wide))
                self.assertEqual(told_without_change(self, poles, as_lists(one), wide), told)

    def test_of_a_told_quotient(self):
        numbers = [pair(value or 1) for value in some_fractions("told", 17, 20)]
        one = furthest(numbers, 8, 8)
        self.assertIs(shows_roots(one[1], (1, 1000), poles(one, (1, 1000))), True)


class HandedIn(unittest.TestCase):
    def test_lists_and_tuples(self):
        for one, roots in some_polynomials_with_roots():
            told = told_without_change(self, root_bounds, one, (1, 3))
            self.assertEqual(repr(told_without_change(self, root_bounds, list(one), (1, 3))), repr(told))
            for low, high in (((-1, 1), (1, 1)), ((0, 1), (10, 1))):
                told = told_without_change(self, roots_between, one, low, high)
                self.assertEqual(told_without_change(self, roots_between, list(one), low, high), told)

    def test_told_lists_are_new(self):
        one = product_of_roots(1, 2)
        for deed, thing in ((root_bounds, one), (root_bounds, NO_ROOT), (poles, (NO_ROOT, polynomial(1, -1)))):
            kept = repr(deed(thing, (1, 1)))
            first, second = deed(thing, (1, 1)), deed(thing, (1, 1))
            self.assertIsNot(first, second)
            first.append(None)
            self.assertEqual(repr(second), kept)
            self.assertEqual(repr(deed(thing, (1, 1))), kept)

    def test_arguments_bear_their_names(self):
        one = product_of_roots(1)
        self.assertEqual(roots_between(one=one, low=(0, 1), high=(1, 1)), 1)
        self.assertEqual(len(root_bounds(one=one, wide=(1, 1))), 1)
        self.assertIs(shows_roots(one=one, wide=(1, 1), thing=[]), False)
        self.assertEqual(poles(one=quotient([1], [1]), wide=(1, 1)), [])


if __name__ == "__main__":
    unittest.main()

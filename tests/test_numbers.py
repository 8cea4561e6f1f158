import random
import unittest
from fractions import Fraction

from farquotient.numbers import before, is_number, minus, number, over, plus, times
from tests.helper import NEITHER, fraction, is_plain_number, pair, some_fractions

FORTY = 10**40 - 1


class Making(unittest.TestCase):
    def test_examples_of_the_document(self):
        self.assertEqual(number(3, 1), (3, 1))
        self.assertEqual(number(-1, 2), (-1, 2))
        self.assertEqual(number(0, 1), (0, 1))

    def test_common_divisors_are_taken_out(self):
        self.assertEqual(number(6, 4), (3, 2))
        self.assertEqual(number(4, 6), (2, 3))
        self.assertEqual(number(12, 4), (3, 1))
        self.assertEqual(number(7, 7), (1, 1))
        self.assertEqual(number(210, 2310), (1, 11))

    def test_below_comes_to_be_above_nought(self):
        self.assertEqual(number(1, -2), (-1, 2))
        self.assertEqual(number(-1, -2), (1, 2))
        self.assertEqual(number(-6, 4), (-3, 2))
        self.assertEqual(number(6, -4), (-3, 2))
        self.assertEqual(number(-6, -4), (3, 2))
        self.assertEqual(number(5, -1), (-5, 1))

    def test_top_nought(self):
        for below in (1, 2, -1, -7, FORTY, -FORTY):
            self.assertEqual(number(0, below), (0, 1))

    def test_forty_figures(self):
        self.assertEqual(number(FORTY, FORTY), (1, 1))
        self.assertEqual(number(-FORTY, FORTY), (-1, 1))
        self.assertEqual(number(FORTY, 9), (FORTY // 9, 1))
        self.assertEqual(number(9, -FORTY), (-1, FORTY // 9))
        self.assertEqual(number(FORTY, FORTY - 1), (FORTY, FORTY - 1))
        self.assertEqual(number(10**39, 4 * 10**39), (1, 4))

    def test_all_small_ones(self):
        for top in range(-30, 31):
            for below in list(range(-30, 0)) + list(range(1, 31)):
                told = number(top, below)
                self.assertTrue(is_plain_number(told), told)
                self.assertEqual(fraction(told), Fraction(top, below))

    def test_many_of_up_to_forty_figures(self):
        values = [value for value in some_fractions("number", 40, 20) if value]
        for one in values:
            for other in values:
                top, below = one.numerator * other.numerator, one.denominator * other.numerator
                told = number(top, below)
                self.assertTrue(is_plain_number(told), told)
                self.assertEqual(fraction(told), Fraction(top, below))

    def test_of_thousands_of_figures(self):
        chance = random.Random("great")
        for figures in (600, 605, 650, 2400, 5000):
            for times_more in (1, 10**5, 10**500, 10**2500):
                shared = chance.randrange(1, 10 ** chance.randint(1, 2000))
                top = chance.randrange(-(10**figures), 10**figures) * shared
                below = chance.randrange(1, 10**figures) * shared * times_more
                for one, other in ((top, below), (below, top), (top, top + 1), (below * below + 1, below)):
                    told = number(one, other)
                    awaited = Fraction(one, other)
                    self.assertTrue(told == (awaited.numerator, awaited.denominator))

    def test_of_steps_that_go_wrong_by_the_first_bits(self):
        # Neighbours in this row go in one another once at each step, and no other numbers take as many steps.
        one, other = 1, 1
        while one < 10**3000:
            one, other = one + other, one
        for more in (-1, 0, 1, 2**4000):
            for factor in (1, 2**70 - 1, 3**2000):
                told = number((one + more) * factor, other * factor)
                awaited = Fraction(one + more, other)
                self.assertTrue(told == (awaited.numerator, awaited.denominator))
        for high in (2000, 2001, 2079, 2080, 2081, 2160, 4000):
            for low in (0, 1, 1900, 1999, 2000, 2001, 2079, 2080, 2081, 3919, 3920, 3921):
                for top in (2**high, 2**high - 1, 2**high + 1):
                    for below in (2**low, 2**low + 1, 3 * 2**low):
                        awaited = Fraction(top, below)
                        self.assertTrue(number(top, below) == (awaited.numerator, awaited.denominator))


class Asking(unittest.TestCase):
    def test_numbers_are_numbers(self):
        for thing in ((3, 1), (-1, 2), (0, 1), (1, 1), (-1, 1), (2, 3), (-9, 4), (FORTY, FORTY - 1), (1 - FORTY, FORTY)):
            self.assertIs(is_number(thing), True, thing)
        for value in some_fractions("asking", 100, 40):
            self.assertIs(is_number(pair(value)), True, value)

    def test_nothing_else_is(self):
        self.assertIs(is_number(()), False)
        for thing in NEITHER:
            self.assertIs(is_number(thing), False, thing)

    def test_just_those_in_lowest_terms(self):
        for top in range(-12, 13):
            for below in range(-12, 13):
                self.assertIs(is_number((top, below)), is_plain_number((top, below)) if below else False)

    def test_lists_are_none(self):
        for value in some_fractions("lists", 20, 10):
            self.assertIs(is_number(list(pair(value))), False)

    def test_deep_things_are_none(self):
        deep = (1, 1)
        for step in range(2000):
            deep = (deep, 1)
        self.assertIs(is_number(deep), False)


class Reckoning(unittest.TestCase):
    def setUp(self):
        self.values = some_fractions("reckoning", 30, 40) + [Fraction(k, 6) for k in range(-7, 8)]

    def check(self, deed, yardstick, one, other):
        told = deed(pair(one), pair(other))
        self.assertTrue(is_plain_number(told), told)
        self.assertEqual(fraction(told), yardstick(one, other))
        self.assertIs(is_number(told), True)

    def test_plus(self):
        for one in self.values:
            for other in self.values:
                self.check(plus, lambda a, b: a + b, one, other)

    def test_minus(self):
        for one in self.values:
            for other in self.values:
                self.check(minus, lambda a, b: a - b, one, other)

    def test_times(self):
        for one in self.values:
            for other in self.values:
                self.check(times, lambda a, b: a * b, one, other)

    def test_over(self):
        for one in self.values:
            for other in self.values:
                if other:
                    self.check(over, lambda a, b: a / b, one, other)

    def test_over_by_numbers_below_nought(self):
        self.assertEqual(over((1, 2), (-3, 4)), (-2, 3))
        self.assertEqual(over((-1, 2), (-3, 4)), (2, 3))
        self.assertEqual(over((0, 1), (-3, 4)), (0, 1))
        self.assertEqual(over((5, 1), (-1, 1)), (-5, 1))

    def test_sums_and_differences_that_are_nought(self):
        for value in self.values:
            self.assertEqual(plus(pair(value), pair(-value)), (0, 1))
            self.assertEqual(minus(pair(value), pair(value)), (0, 1))

    def test_what_is_told_may_be_handed_in_again(self):
        one = (1, 3)
        for value in self.values:
            one = plus(times(one, pair(value)), (1, 7))
        self.assertIs(is_number(one), True)


class Order(unittest.TestCase):
    def test_both_ways_about(self):
        self.assertIs(before((1, 3), (1, 2)), True)
        self.assertIs(before((1, 2), (1, 3)), False)
        self.assertIs(before((-1, 2), (-1, 3)), True)
        self.assertIs(before((-1, 3), (-1, 2)), False)
        self.assertIs(before((-5, 1), (1, 9)), True)
        self.assertIs(before((1, 9), (-5, 1)), False)
        self.assertIs(before((0, 1), (1, 10**40 - 1)), True)
        self.assertIs(before((0, 1), (-1, 10**40 - 1)), False)

    def test_no_number_is_before_itself(self):
        for value in some_fractions("itself", 50, 40):
            self.assertIs(before(pair(value), pair(value)), False)

    def test_against_fractions(self):
        values = some_fractions("order", 40, 40) + [Fraction(k, 3) for k in range(-5, 6)]
        for one in values:
            for other in values:
                self.assertIs(before(pair(one), pair(other)), one < other)


class Interface(unittest.TestCase):
    def test_arguments_bear_their_names(self):
        self.assertEqual(number(top=2, below=4), (1, 2))
        self.assertIs(is_number(thing=(1, 2)), True)
        self.assertEqual(plus(one=(1, 2), other=(1, 3)), (5, 6))
        self.assertEqual(minus(one=(1, 2), other=(1, 3)), (1, 6))
        self.assertEqual(times(one=(1, 2), other=(1, 3)), (1, 6))
        self.assertEqual(over(one=(1, 2), other=(1, 3)), (3, 2))
        self.assertIs(before(one=(1, 2), other=(1, 3)), False)


if __name__ == "__main__":
    unittest.main()

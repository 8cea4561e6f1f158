"""The numbers of a prime, looked at against whole numbers; those of numbers.py are looked at by polys.py's tests."""

import unittest

from farquotient.fields import (
    FractionField,
    PrimeField,
    WholeNumbers,
    brought_by,
    common_in,
    less_in,
    parted_in,
    product_in,
    sum_in,
    value_in,
)


def cut(row):
    row = list(row)
    while row and row[-1] == 0:
        row.pop()
    return tuple(row)


class NumbersOfAPrime(unittest.TestCase):
    def test_all_of_small_primes(self):
        for prime in (2, 3, 5, 7, 11):
            field = PrimeField(prime)
            for one in range(prime):
                for other in range(prime):
                    self.assertEqual(field.added(one, other), (one + other) % prime)
                    self.assertEqual(field.lessened(one, other), (one - other) % prime)
                    self.assertEqual(field.multiplied(one, other), one * other % prime)

    def test_shares(self):
        for prime in (2, 3, 5, 7, 997):
            field = PrimeField(prime)
            for other in range(1, prime):
                for one in (0, 1, prime - 1):
                    told = field.divided(one, other)
                    self.assertIn(told, range(prime))
                    self.assertEqual(told * other % prime, one)


    def test_noughts_and_units(self):
        for field in (PrimeField(2), PrimeField(997), WholeNumbers(), FractionField()):
            for one in (field.nought, field.unit):
                self.assertEqual(field.added(one, field.nought), one)
                self.assertEqual(field.lessened(one, one), field.nought)
                self.assertEqual(field.multiplied(one, field.unit), one)
                self.assertEqual(field.divided(one, field.unit), one)
            self.assertNotEqual(field.nought, field.unit)

    def test_brought(self):
        self.assertEqual(brought_by(7, [(3, 1), (-1, 1), (1, 2), (0, 1), (7, 3), (22, 10**40 + 1)])[:5], [3, 6, 4, 0, 0])
        self.assertEqual(brought_by(7, []), [])
        self.assertIsNone(brought_by(7, [(3, 1), (1, 14), (1, 2)]))
        for below in range(1, 30):
            for top in range(-9, 9):
                told = brought_by(5, [(1, 1), (top, below)])
                if below % 5 == 0:
                    self.assertIsNone(told)
                else:
                    self.assertEqual((told[1] * below - top) % 5, 0)
                    self.assertIn(told[1], range(5))


class WholeOnes(unittest.TestCase):
    def test_sums_products_and_shares(self):
        field = WholeNumbers()
        for one in range(-6, 7):
            for other in (-3, -1, 1, 2):
                self.assertEqual(field.added(one, other), one + other)
                self.assertEqual(field.lessened(one, other), one - other)
                self.assertEqual(field.multiplied(one, other), one * other)
                self.assertEqual(field.divided(one * other, other), one)

    def test_simplest(self):
        self.assertEqual(WholeNumbers().simplest([6, 0, -4]), (3, 0, -2))
        self.assertEqual(WholeNumbers().simplest((-5,)), (-1,))
        self.assertEqual(PrimeField(7).simplest([6, 0, 4]), (6, 0, 4))
        self.assertEqual(FractionField().simplest([(6, 1), (4, 1)]), ((6, 1), (4, 1)))


class PolynomialsOfAPrime(unittest.TestCase):
    def setUp(self):
        self.all = [cut((a, b, c)) for a in range(3) for b in range(3) for c in range(3)]
        self.field = PrimeField(3)

    def values(self, one):
        return [sum(number * x**power for power, number in enumerate(one)) for x in range(3)]

    def test_sums_differences_and_products(self):
        for one in self.all:
            for other in self.all:
                left, right = list(one) + [0] * (3 - len(one)), list(other) + [0] * (3 - len(other))
                self.assertEqual(sum_in(self.field, one, other), cut([(a + b) % 3 for a, b in zip(left, right)]))
                self.assertEqual(less_in(self.field, one, other), cut([(a - b) % 3 for a, b in zip(left, right)]))
                row = [sum(left[i] * right[k - i] for i in range(3) if 0 <= k - i < 3) % 3 for k in range(5)]
                self.assertEqual(product_in(self.field, one, other), cut(row))

    def test_values(self):
        for one in self.all:
            for x in range(3):
                self.assertEqual(value_in(self.field, one, x), self.values(one)[x] % 3)

    def test_parting(self):
        for one in self.all:
            for other in self.all:
                if other:
                    often, rest = parted_in(self.field, one, other)
                    self.assertEqual(sum_in(self.field, product_in(self.field, often, other), rest), one)
                    self.assertLess(len(rest), len(other))

    def test_common_factors(self):
        for one in self.all:
            for other in self.all:
                told = common_in(self.field, one, other)
                if not one and not other:
                    self.assertEqual(told, ())
                    continue
                self.assertEqual(told[-1], 1)
                for each in (one, other):
                    self.assertEqual(parted_in(self.field, each, told)[1], ())
                for factor in self.all:
                    goes = [factor and not parted_in(self.field, each, factor)[1] for each in (one, other)]
                    if all(goes):
                        self.assertLessEqual(len(factor), len(told))


if __name__ == "__main__":
    unittest.main()

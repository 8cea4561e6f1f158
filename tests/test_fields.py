"""The numbers of a prime, looked at against whole numbers; those of numbers.py are looked at by polys.py's tests."""

import unittest

from farquotient.fields import PrimeField, less_in, parted_in, product_in, sum_in, value_in


def cut(row):
    row = list(row)
    while row and row[-1] == 0:
        row.pop()
    return tuple(row)


class NumbersOfAPrime(unittest.TestCase):
    def test_all_of_small_primes(self):
        for prime in (2, 3, 5, 7, 11):
            field = PrimeField(prime)
            for one in range(prime):
                for other in range(prime):
                    self.assertEqual(field.added(one, other), (one + other) % prime)
                    self.assertEqual(field.lessened(one, other), (one - other) % prime)
                    self.assertEqual(field.multiplied(one, other), one * other % prime)

    def test_shares(self):
        for prime in (2, 3, 5, 7, 997):
            field = PrimeField(prime)
            for other in range(1, prime):
                for one in (0, 1, prime - 1):
                    told = field.divided(one, other)
                    self.assertIn(told, range(prime))
                    self.assertEqual(told * other % prime, one)


class PolynomialsOfAPrime(unittest.TestCase):
    def setUp(self):
        self.all = [cut((a, b, c)) for a in range(3) for b in range(3) for c in range(3)]
        self.field = PrimeField(3)

    def values(self, one):
        return [sum(number * x**power for power, number in enumerate(one)) for x in range(3)]

    def test_sums_differences_and_products(self):
        for one in self.all:
            for other in self.all:
                left, right = list(one) + [0] * (3 - len(one)), list(other) + [0] * (3 - len(other))
                self.assertEqual(sum_in(self.field, one, other), cut([(a + b) % 3 for a, b in zip(left, right)]))
                self.assertEqual(less_in(self.field, one, other), cut([(a - b) % 3 for a, b in zip(left, right)]))
                row = [sum(left[i] * right[k - i] for i in range(3) if 0 <= k - i < 3) % 3 for k in range(5)]
                self.assertEqual(product_in(self.field, one, other), cut(row))

    def test_values(self):
        for one in self.all:
            for x in range(3):
                self.assertEqual(value_in(self.field, one, x), self.values(one)[x] % 3)

    def test_parting(self):
        for one in self.all:
            for other in self.all:
                if other:
                    often, rest = parted_in(self.field, one, other)
                    self.assertEqual(sum_in(self.field, product_in(self.field, often, other), rest), one)
                    self.assertLess(len(rest), len(other))


if __name__ == "__main__":
    unittest.main()

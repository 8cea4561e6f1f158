"""Rows and equations with the numbers of a prime; those of numbers.py are looked at by other tests."""

import itertools
import unittest

from farquotient.equations import least_pair
from farquotient.errors import TooShort
from farquotient.fields import FractionField, PrimeField
from farquotient.quotients import agrees, row_of
from farquotient.rows import agreement_in, check_places, row_in
from tests.helper import agreement_by_hand, check_refusal, pair, row_by_hand, some_quotients, some_rows


class OfAPrime(unittest.TestCase):
    def test_rows_and_agreement(self):
        field = PrimeField(5)
        for top in itertools.product(range(5), repeat=2):
            for behind in itertools.product(range(5), repeat=2):
                below = (1,) + behind
                row = row_in(field, top, below, 6)
                self.assertEqual(len(row), 6)
                for place in range(6):
                    total = sum(below[j] * row[place - j] for j in range(min(place, 2) + 1))
                    self.assertEqual(total % 5, top[place] if place < 2 else 0)
                    self.assertIn(row[place], range(5))
                self.assertEqual(agreement_in(field, row, top, below), 6)
                row[4] = (row[4] + 1) % 5
                self.assertEqual(agreement_in(field, row, top, below), 4)

    def test_the_least_pair_answers_the_equations(self):
        field = PrimeField(3)
        for row in itertools.product(range(3), repeat=5):
            for m in range(5):
                n = 4 - m
                top, below = least_pair(field, row, m, n)
                self.assertLessEqual(len(top), m + 1)
                self.assertLessEqual(len(below), n + 1)
                self.assertNotEqual(below[-1], 0)
                for place in range(5):
                    total = sum(below[j] * row[place - j] for j in range(min(place, len(below) - 1) + 1))
                    self.assertEqual(total % 3, top[place] if place < len(top) else 0)


class OfFractions(unittest.TestCase):
    def test_it_comes_to_the_same_as_by_whole_numbers(self):
        field = FractionField()
        rows = some_rows("same", 30, 8, 2)
        for one in some_quotients("same", 20, 4, 4, 6):
            self.assertEqual(row_in(field, one[0], one[1], 9), row_of(one, 9))
            self.assertEqual(row_of(one, 9), [pair(number) for number in row_by_hand(one, 9)])
            for row in rows:
                self.assertEqual(agreement_in(field, row, one[0], one[1]), agreement_by_hand(row, one))
                self.assertEqual(agrees(row, one), agreement_by_hand(row, one))


class Places(unittest.TestCase):
    def test_too_few(self):
        check_refusal(self, TooShort, check_places, [1, 2], 1, 1)
        check_refusal(self, TooShort, check_places, [], 0, 0)
        self.assertIsNone(check_places([1, 2, 3], 1, 1))
        self.assertIsNone(check_places([1, 2, 3, 4], 1, 1))


if __name__ == "__main__":
    unittest.main()

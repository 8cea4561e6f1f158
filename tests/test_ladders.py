import unittest
from fractions import Fraction

from farquotient.equations import furthest
from farquotient.ladders import far_sum, ladder, sums_of
from farquotient.quotients import heights, row_of, value
from tests.helper import (
    fraction,
    fractions_of,
    is_plain_number,
    pair,
    polynomial,
    quotient,
    some_fractions,
    some_quotients,
    some_rows,
    told_without_change,
    value_of,
)

HALF = Fraction(1, 2)
XS = ((0, 1), (1, 1), (-1, 1), (1, 2), (-3, 2), (7, 1))


def row(*values):
    return list(polynomial(*values))


def sums_by_hand(numbers, x):
    return [pair(value_of(numbers[: many + 1], x)) for many in range(len(numbers))]


def ladder_by_hand(sums):
    """The columns, each number reckoned by itself from the words of the document."""
    known = {}

    def at(k, i):
        if k == -1:
            return Fraction(0)
        if k == 0:
            return fraction(sums[i])
        if (k, i) not in known:
            start, high, low = at(k - 2, i + 1), at(k - 1, i + 1), at(k - 1, i)
            none = start is None or high is None or low is None or high == low
            known[(k, i)] = None if none else start + 1 / (high - low)
        return known[(k, i)]

    columns = [[at(k, i) for i in range(len(sums) - k)] for k in range(len(sums))]
    return [[None if each is None else pair(each) for each in column] for column in columns]


def far_by_hand(numbers, x):
    columns = ladder_by_hand(sums_by_hand(numbers, x))
    even = [column for k, column in enumerate(columns) if k % 2 == 0 and column != [None] * len(column)]
    return [each for each in even[-1] if each is not None][-1]


class SumsOf(unittest.TestCase):
    def test_examples(self):
        self.assertEqual(sums_of(row(1, 2, 3), (1, 1)), row(1, 3, 6))
        self.assertEqual(sums_of(row(1, 1, 1), (1, 2)), row(1, Fraction(3, 2), Fraction(7, 4)))
        self.assertEqual(sums_of(row(1, 1, 1), (-1, 1)), row(1, 0, 1))
        self.assertEqual(sums_of(row(1, HALF, Fraction(1, 3)), (2, 3)), row(1, Fraction(4, 3), Fraction(40, 27)))
        self.assertEqual(sums_of(row(5), (7, 2)), row(5))

    def test_at_nought(self):
        self.assertEqual(sums_of(row(3, 5, 7), (0, 1)), row(3, 3, 3))
        self.assertEqual(sums_of(row(0, 5, 7), (0, 1)), row(0, 0, 0))

    def test_against_fractions(self):
        for numbers in some_rows("sums", 40, 12, 4):
            for x in XS + ((-22, 7), (10**40 - 1, 10**39)):
                told = sums_of(numbers, x)
                self.assertIs(type(told), list)
                self.assertTrue(all(is_plain_number(number) for number in told))
                self.assertEqual(told, sums_by_hand(numbers, x))


class Ladder(unittest.TestCase):
    def check_ladder(self, sums):
        told = ladder(sums)
        self.assertIs(type(told), list)
        self.assertTrue(all(type(column) is list for column in told))
        self.assertEqual([len(column) for column in told], list(range(len(sums), 0, -1)))
        self.assertTrue(all(each is None or is_plain_number(each) for column in told for each in column))
        self.assertEqual(told, ladder_by_hand(sums), sums)

    def test_one_sum(self):
        self.assertEqual(ladder(row(5)), [row(5)])
        self.assertEqual(ladder(row(0)), [row(0)])

    def test_examples(self):
        self.assertEqual(ladder(row(1, 3)), [row(1, 3), row(HALF)])
        self.assertEqual(
            ladder(row(1, Fraction(3, 2), Fraction(7, 4))), [row(1, Fraction(3, 2), Fraction(7, 4)), row(2, 4), row(2)]
        )
        self.assertEqual(ladder(row(1, 0, 2)), [row(1, 0, 2), row(-1, HALF), row(Fraction(2, 3))])

    def test_sums_alike(self):
        self.assertEqual(ladder(row(4, 4)), [row(4, 4), [None]])
        self.assertEqual(ladder(row(4, 4, 4, 4)), [row(4, 4, 4, 4), [None] * 3, [None] * 2, [None]])
        self.assertEqual(ladder(row(4, 4, 5)), [row(4, 4, 5), [None, (1, 1)], [None]])
        self.assertEqual(ladder(row(4, 5, 5)), [row(4, 5, 5), [(1, 1), None], [None]])

    def test_by_turns_alike(self):
        # The steps are 1 and -1 by turns; so column 2 is 1/2 throughout, and column 3 has nothing to part by.
        self.assertEqual(
            ladder(row(0, 1, 0, 1, 0)),
            [row(0, 1, 0, 1, 0), row(1, -1, 1, -1), row(HALF, HALF, HALF), [None, None], [None]],
        )

    def test_equal_steps(self):
        self.assertEqual(ladder(row(1, 3, 5, 7)), [row(1, 3, 5, 7), row(HALF, HALF, HALF), [None, None], [None]])

    def test_none_spreads(self):
        told = ladder(row(1, 2, 2, 5, 7, 4, 4, 9))
        self.assertEqual([k for k, each in enumerate(told[1]) if each is None], [1, 5])
        self.assertEqual([k for k, each in enumerate(told[2]) if each is None], [0, 1, 4, 5])
        # Column 3 at 1 and at 2 leans on column 1 at 2 and 3, and on column 2 at 1 to 3.
        self.assertIsNone(told[3][1])
        self.assertIsNotNone(told[3][2])
        self.check_ladder(row(1, 2, 2, 5, 7, 4, 4, 9))

    def test_a_none_two_columns_ahead(self):
        for sums in (row(1, 2, 2, 1, 3), row(0, 1, 1, 0, 5, 2), row(3, 1, 4, 4, 1, 3, 9)):
            self.check_ladder(sums)

    def test_against_fractions(self):
        for numbers in some_rows("ladder", 80, 9, 3):
            self.check_ladder(numbers)
            for x in XS:
                self.check_ladder(sums_of(numbers, x))

    def test_all_small_sums(self):
        for code in range(4**6):
            self.check_ladder(row(*[code // 4**place % 4 for place in range(6)]))

    def test_24_sums(self):
        self.check_ladder(row(*some_fractions("24", 24, 2)[::-1]))
        sums = [pair(number or 1) for number in some_fractions("forty", 24, 40)]
        told = ladder(sums)
        self.assertEqual(told[:4], ladder_by_hand(sums[:24])[:4])
        self.assertEqual([len(column) for column in told], list(range(24, 0, -1)))


class FarSum(unittest.TestCase):
    def test_examples(self):
        self.assertEqual(far_sum(row(1, 1, 1), (1, 2)), (2, 1))
        self.assertEqual(far_sum(row(1, 1, 1, 1, 1), (-1, 1)), (1, 2))
        self.assertEqual(far_sum(row(1, 2, 4, 8), (1, 1)), (-1, 1))
        self.assertEqual(far_sum(row(5), (7, 2)), (5, 1))
        self.assertEqual(far_sum(row(5, 2), (3, 1)), (11, 1))
        self.assertEqual(far_sum(row(1, 1, 1), (1, 1)), (3, 1))

    def test_at_nought(self):
        for numbers in some_rows("nought", 20, 9, 3):
            self.assertEqual(far_sum(numbers, (0, 1)), numbers[0])

    def test_noughts_alone(self):
        for places in (1, 2, 3, 24):
            for x in XS:
                self.assertEqual(far_sum([(0, 1)] * places, x), (0, 1))

    def test_against_fractions(self):
        for numbers in some_rows("far", 80, 9, 3):
            for x in XS:
                told = far_sum(numbers, x)
                self.assertTrue(is_plain_number(told))
                self.assertEqual(told, far_by_hand(numbers, x), (numbers, x))

    def test_the_last_one_that_is_there(self):
        # Column 2 is 1/2 here and None at its end, column 4 is None, so the one ahead of the end is told.
        numbers = row(1, -1, 1, 0)
        self.assertEqual(ladder(sums_of(numbers, (1, 1)))[2], [(1, 2), None])
        self.assertEqual(far_sum(numbers, (1, 1)), (1, 2))
        # An odd column of one has nothing to say, whatever it holds.
        self.assertEqual(far_sum(row(1, 2), (1, 1)), (3, 1))

    def test_24_places_of_forty_figures(self):
        numbers = [pair(number or 1) for number in some_fractions("forty", 24, 40)]
        for x in ((1, 1), (-1, 3), numbers[7]):
            self.assertEqual(far_sum(numbers, x), value(furthest(numbers, 12, 11), x))


class Values(unittest.TestCase):
    """Even columns tell the furthest quotients' values."""

    def check_values(self, numbers, x):
        found = 0
        for k, column in enumerate(ladder(sums_of(numbers, x))[::2]):
            for i, told in enumerate(column):
                if told is not None:
                    self.assertEqual(told, value(furthest(numbers, i + k, k), x), (numbers, x, i, k))
                    found += 1
        return found

    def test_ordinary_rows(self):
        found = [self.check_values(numbers, x) for numbers in some_rows("values", 50, 8, 2) for x in XS[1:]]
        self.assertGreater(sum(found), 1000)

    def test_all_small_rows(self):
        for code in range(3**5):
            numbers = row(*[code // 3**place % 3 - 1 for place in range(5)])
            for x in ((1, 1), (-1, 1), (1, 2)):
                self.check_values(numbers, x)

    def test_whole_sums_of_rows_with_a_rule(self):
        for one in some_quotients("whole", 20, 3, 2, 2):
            a, b = heights(one)
            for x in ((1, 3), (-1, 7), (2, 1)):
                numbers = row_of(one, 12)
                if value_of(one[1], x) == 0:
                    continue
                columns = ladder(sums_of(numbers, x))
                for k in range(b, 6):
                    for i in range(max(0, a - k), 12 - 2 * k):
                        self.assertIn(columns[2 * k][i], (None, value(one, x)))

    def test_the_whole_sum_of_a_row_with_a_rule(self):
        self.assertEqual(far_sum(row(0, 1, 1, 2, 3, 5, 8), (1, 3)), (3, 5))
        one = quotient([1, 2], [1, -HALF, Fraction(1, 3)])
        for x in ((1, 1), (1, 2), (-5, 1)):
            self.assertEqual(far_sum(row_of(one, 6), x), value(one, x))


class HandedIn(unittest.TestCase):
    def test_lists_and_tuples(self):
        for numbers in some_rows("handed", 20, 7, 2):
            for x in XS[:4]:
                for deed in (sums_of, far_sum):
                    told = told_without_change(self, deed, numbers, x)
                    self.assertEqual(repr(told_without_change(self, deed, tuple(numbers), x)), repr(told))
            told = told_without_change(self, ladder, numbers)
            self.assertEqual(repr(told_without_change(self, ladder, tuple(numbers))), repr(told))

    def test_told_lists_are_new(self):
        numbers = row(1, 3, 3, 7)
        kept = repr((ladder(numbers), sums_of(numbers, (1, 1))))
        first, second = ladder(numbers), ladder(numbers)
        lists = [numbers, first] + first + [second] + second + [sums_of(numbers, (1, 1)), sums_of(numbers, (1, 1))]
        self.assertEqual(len({id(each) for each in lists}), len(lists))
        for column in first:
            column.append(None)
        lists[-1].clear()
        first.clear()
        self.assertEqual(repr((second, lists[-2])), kept)
        self.assertEqual(repr((ladder(numbers), sums_of(numbers, (1, 1)))), kept)
        self.assertEqual(numbers, row(1, 3, 3, 7))
        for each in (row(5), row(5, 5)):
            self.assertIsNot(ladder(each)[0], each)

    def test_a_list_changed_later_changes_nothing_told(self):
        numbers = row(1, 3, 3, 7)
        told = (ladder(numbers), sums_of(numbers, (1, 1)))
        kept = repr(told)
        numbers[0] = (8, 1)
        numbers.append((9, 1))
        self.assertEqual(repr(told), kept)

    def test_arguments_bear_their_names(self):
        self.assertEqual(sums_of(row=row(1), x=(1, 1)), row(1))
        self.assertEqual(ladder(sums=row(1)), [row(1)])
        self.assertEqual(far_sum(row=row(1), x=(1, 1)), (1, 1))
        self.assertEqual(fractions_of(sums_of(row(1, 2), (1, 2))), [1, 2])


if __name__ == "__main__":
    unittest.main()

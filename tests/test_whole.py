"""What holds over the whole program, whichever way a thing is come by."""

import unittest
from fractions import Fraction

from farquotient.blocks import block_of, blocks, shows_blocks, table
from farquotient.equations import furthest, never_paper, shows_furthest, shows_never
from farquotient.errors import TooShort
from farquotient.growing import Grower, by_growing
from farquotient.ladders import far_sum, ladder, sums_of
from farquotient.numbers import plus
from farquotient.partings import by_parting, slope
from farquotient.primes import brought, furthest_by, shortest_by
from farquotient.quotients import agrees, heights, row_of, value
from farquotient.roots import poles, shows_roots
from farquotient.rules import found_rule, gone_on, least_rule, obeys, rule_of
from farquotient.sheet import run
from tests.helper import check_refusal, fraction, pair, polynomial, some_fractions, some_quotients, some_rows, value_of

NOUGHT = ((), ((1, 1),))
XS = ((1, 1), (-1, 1), (1, 2), (-5, 3))


def heights_within(places):
    """All heights for which a row of so many places has enough."""
    return [(m, n) for m in range(places) for n in range(places - m)]


def written(one):
    """The words of a polynomial or a row."""
    return " ".join(str(fraction(number)) for number in one) or "0"


class Ways(unittest.TestCase):
    def setUp(self):
        self.rows = some_rows("whole", 50, 9, 3)

    def test_all_three_ways_tell_one(self):
        for row in self.rows:
            columns, slopes = table(row), slope(row)
            for m, n in heights_within(len(row)):
                far = furthest(row, m, n)
                self.assertEqual(by_parting(row, m, n), far)
                self.assertEqual(by_growing(row, m, n), far)
                self.assertEqual(columns[m][n], far)
                if m + n + 1 == len(row):
                    self.assertEqual([one for high, low, one in slopes if low <= m <= high], [far])

    def test_all_three_ways_are_refused_alike(self):
        for row in self.rows:
            places = len(row)
            for m, n in ((places, 0), (0, places), (places // 2, places - places // 2), (23, 23)):
                for deed in (furthest, by_parting, by_growing, block_of, found_rule):
                    check_refusal(self, TooShort, deed, row, m, n)

    def test_a_grower_tells_the_furthest_of_its_heights(self):
        for row in self.rows:
            for off in range(-1, 9):
                grower = Grower(off)
                for places, number in enumerate(row, 1):
                    grower.put(number)
                    one, n = grower.told(), grower.length()
                    if one is not None:
                        self.assertEqual(agrees(row[:places], one), places)
                        if n + off >= 0:
                            self.assertEqual(one, furthest(row[:places], n + off, n))

    def test_no_other_of_its_heights_agrees_as_far(self):
        for row in self.rows:
            for m, n in heights_within(len(row)):
                far = furthest(row, m, n)
                self.assertIs(shows_furthest(row, m, n, far), True)
                places = agrees(row, far)
                self.assertIsNone(never_paper(row, m, n, places))
                if places < len(row):
                    paper = never_paper(row, m, n, places + 1)
                    self.assertIs(shows_never(row, m, n, places + 1, paper), True)

    def test_the_heights_of_one_quotient_are_just_its_square(self):
        for row in self.rows:
            far = {here: furthest(row, *here) for here in heights_within(len(row))}
            told = blocks(row)
            self.assertIs(shows_blocks(row, told), True)
            self.assertEqual({one for a, b, side, one in told}, set(far.values()) - {NOUGHT})
            for a, b, side, one in told:
                end = len(row) if side is None else side
                square = {(i, j) for i, j in far if 0 <= i - a <= end and 0 <= j - b <= end}
                self.assertEqual(square, {here for here in far if far[here] == one})
                for here in square:
                    self.assertEqual(block_of(row, *here), (a, b, side))
                if side is not None:
                    self.assertEqual(agrees(row, one), a + b + 1 + side)


class Rules(unittest.TestCase):
    def test_rows_with_a_rule_are_found_again_to_every_place(self):
        for one in some_quotients("whole", 24, 3, 3, 3):
            a, b = heights(one)
            awaited = row_of(one, 30)
            for places in range(max(1, a + b + 1), 11):
                row = awaited[:places]
                for m, n in heights_within(places):
                    if m >= a and n >= b and one != NOUGHT:
                        for deed in (furthest, by_parting, by_growing):
                            self.assertEqual(deed(row, m, n), one)
                        self.assertEqual(gone_on(row, found_rule(row, m, n), 30), awaited)
                if places >= max(2, a + b + 2):
                    self.assertEqual(least_rule(row), rule_of(one))
                    self.assertIs(obeys(awaited, least_rule(row)), True)

    def test_a_grower_finds_them_too(self):
        for one in some_quotients("grown", 24, 4, 3, 3):
            for off in (-1, 0, 3):
                grower = Grower(off)
                for number in row_of(one, 16):
                    grower.put(number)
                self.assertEqual(grower.told(), one)

    def test_whole_sums(self):
        for one in some_quotients("sums", 24, 2, 2, 2):
            a, b = heights(one)
            row = row_of(one, 9)
            for x in XS:
                if value_of(one[1], x) == 0:
                    continue
                for k, column in enumerate(ladder(sums_of(row, x))[::2]):
                    for i, told in enumerate(column):
                        if told is not None:
                            self.assertEqual(told, value(furthest(row, i + k, k), x))
                            if i + k >= a and k >= b:
                                self.assertEqual(told, value(one, x))

    def test_a_whole_sum_is_come_near_to(self):
        one = (polynomial(1, Fraction(1, 2)), polynomial(1, Fraction(-1, 3), Fraction(1, 5)))
        row = row_of(one, 90)
        near = sums_of(row, (1, 2))[-1]
        self.assertEqual(far_sum(row[:6], (1, 2)), value(one, (1, 2)))
        self.assertLess(abs(fraction(near) - fraction(far_sum(row[:6], (1, 2)))), Fraction(1, 10**20))


class Primes(unittest.TestCase):
    def test_far_by_a_prime(self):
        for row in some_rows("prime", 24, 7, 2):
            for p in (2, 3, 5, 997):
                numbers = brought(p, row)
                for m, n in heights_within(len(row)):
                    answer = run(f"row a {written(row)}\nprime {p} a {m} {n}")
                    if numbers is None:
                        self.assertEqual(answer, ["-"])
                    else:
                        top, below = furthest_by(p, numbers, m, n)
                        words = [" ".join(str(each) for each in part) or "0" for part in (top, below)]
                        self.assertEqual(answer, [" : ".join(words)])

    def test_the_shortest_is_a_growers(self):
        # With a great prime the whole numbers below it make no difference.
        p = 997
        for row in ([(0, 1), (1, 1), (1, 1), (2, 1), (3, 1)], [(1, 1), (2, 1), (4, 1), (8, 1)], [(1, 1), (0, 1), (0, 1), (1, 1)]):
            grower = Grower(-1)
            for number in row:
                grower.put(number)
            n, one = shortest_by(p, brought(p, row))
            self.assertEqual(n, grower.length())
            if one is not None:
                self.assertEqual([list(part) for part in one], [brought(p, part) for part in grower.told()])


class ToldThings(unittest.TestCase):
    """What is told may be handed in again, whatever its size."""

    def test_a_great_quotient(self):
        row = [pair(number or 1) for number in some_fractions("great", 17, 40)]
        one = furthest(row, 8, 8)
        self.assertGreater(one[1][8][1], 10**1000)
        again = row_of(one, 20)
        self.assertEqual(agrees(again, one), 20)
        self.assertEqual(again[:17], row)
        self.assertEqual(by_growing(again, 8, 8), one)
        self.assertEqual(gone_on(row, rule_of(one), 20), again)
        self.assertIs(obeys(again, rule_of(one)), True)
        self.assertEqual(value(one, (0, 1)), row[0])
        told = poles(one, (1, 100))
        self.assertIs(shows_roots(one[1], (1, 100), told), True)
        self.assertEqual(far_sum(row, (1, 3)), value(one, (1, 3)))
        self.assertEqual(plus(again[19], (0, 1)), again[19])

    def test_a_told_row(self):
        for one in some_quotients("told", 8, 3, 3, 6):
            row = gone_on(row_of(one, 8), rule_of(one), 12)
            grower = Grower(0)
            for number in row:
                grower.put(number)
            self.assertEqual(grower.told(), one)
            self.assertEqual(furthest(grower.told_row(), 4, 4), one)
            self.assertEqual(ladder(ladder(row)[0])[0], row)


class Sheets(unittest.TestCase):
    def test_a_whole_sheet(self):
        text = "\n".join([
            "row f 0 1 1 2 3 5 8", "quotient q 0 1 : 1 -1 -1", "", "far f 1 2", "far f 2 4", "far f 6 1", "agrees f q",
            "block f 3 3", "rule f", "value q 1/3", "value q 1/2", "places q 9", "sum f 1/3", "poles q",
            "prime 11 f 1 2", "row f 1 0 0 2", "block f 2 1", "block f 0 3", "rule f", "agrees f q",
        ])
        self.assertEqual(run(text), [
            "0 1 : 1 -1 -1", "0 1 : 1 -1 -1", "short", "7", "1 2 -", "1 1 : 2", "3/5", "2", "0 1 1 2 3 5 8 13 21", "3/5", "2",
            "0 1 : 1 10 10", "0 0 2", "0 3 -", "-", "0",
        ])


if __name__ == "__main__":
    unittest.main()

import copy
import unittest
from fractions import Fraction

from farquotient.equations import furthest
from farquotient.errors import TooShort
from farquotient.growing import Grower, by_growing
from farquotient.partings import by_parting
from farquotient.quotients import row_of
from tests.helper import (
    agreement_by_hand,
    belows_by_hand,
    check_refusal,
    cut,
    is_plain_quotient,
    pair,
    polynomial,
    quotient,
    row_by_hand,
    some_fractions,
    some_quotients,
    some_rows,
    told_without_change,
    top_by_hand,
)

NOUGHT = ((), ((1, 1),))
HALF = Fraction(1, 2)
OFFS = tuple(range(-1, 9))


def row(*values):
    return list(polynomial(*values))


def grown(off, numbers):
    """A Grower of a row."""
    grower = Grower(off)
    for number in numbers:
        grower.put(number)
    return grower


def length_by_hand(off, numbers):
    """The least n for which there is a below of a quotient of heights (n + off, n) that agrees at all places."""
    n = 0
    while belows_by_hand(numbers, n + off, n, len(numbers)) is None:
        n += 1
    return n


def told_by_hand(off, numbers):
    """The one quotient of heights (length + off, length) that agrees at all places, or None."""
    n = length_by_hand(off, numbers)
    below, free = belows_by_hand(numbers, n + off, n, len(numbers))
    if free or len(numbers) <= n + off:
        return None
    return (polynomial(*cut(top_by_hand(numbers, below, n + off))), polynomial(*cut(below)))


def changed(numbers, place):
    """A row with another number at one place."""
    top, below = numbers[place]
    return numbers[:place] + [(top + below, below)] + numbers[place + 1 :]


class Growing(unittest.TestCase):
    def check_growth(self, off, numbers):
        """Looks at a Grower ahead of any place and behind each one."""
        grower = Grower(off)
        jumps = [(0, 0)]
        for places in range(len(numbers) + 1):
            so_far = numbers[:places]
            length, told = length_by_hand(off, so_far), told_by_hand(off, so_far)
            if length > jumps[-1][1]:
                jumps.append((places, length))
            self.assertEqual(grower.told_row(), so_far)
            self.assertEqual(grower.length(), length, (off, so_far))
            self.assertEqual(grower.jumps(), jumps, (off, so_far))
            self.assertEqual(grower.told(), told, (off, so_far))
            self.assertEqual(told is None, places < 2 * length + off + 1)
            if places < len(numbers):
                self.assertIsNone(grower.put(numbers[places]))

    def test_no_places(self):
        for off in OFFS:
            grower = Grower(off)
            self.assertEqual(repr([grower.told_row(), grower.length(), grower.jumps()]), repr([[], 0, [(0, 0)]]))
            self.assertEqual(grower.told(), NOUGHT if off == -1 else None)

    def test_examples(self):
        grower = grown(-1, row(0, 1, 1, 2, 3))
        self.assertEqual(repr(grower.length()), "2")
        self.assertEqual(grower.told(), quotient([0, 1], [1, -1, -1]))
        self.assertEqual(repr(grower.jumps()), "[(0, 0), (2, 2)]")
        grower = grown(0, row(1, 1, HALF))
        self.assertEqual(grower.told(), quotient([1, HALF], [1, -HALF]))
        self.assertEqual(grower.jumps(), [(0, 0), (2, 1)])
        grower.put((1, 6))
        self.assertEqual((grower.length(), grower.told()), (2, None))
        grower.put((1, 24))
        far = quotient([1, HALF, Fraction(1, 12)], [1, -HALF, Fraction(1, 12)])
        self.assertEqual((grower.length(), grower.told()), (2, far))

    def test_several_quotients(self):
        # Of heights (1, 1) there are many that agree with 1, 0, so none is told; with 1, 0, 3 there is none at all.
        grower = grown(-1, row(1))
        self.assertEqual((grower.length(), grower.told()), (1, None))
        grower.put((0, 1))
        self.assertEqual((grower.length(), grower.told()), (1, quotient([1], [1])))
        grower.put((3, 1))
        self.assertEqual((grower.length(), grower.told()), (2, None))

    def test_noughts_alone(self):
        for off in OFFS:
            grower = Grower(off)
            for places in range(1, 25):
                grower.put((0, 1))
                self.assertEqual(grower.told_row(), [(0, 1)] * places)
                self.assertEqual((grower.length(), grower.jumps()), (0, [(0, 0)]))
                self.assertEqual(grower.told(), NOUGHT if places > off else None)

    def test_noughts_ahead(self):
        for off in OFFS:
            for ahead in (1, 2, 3, 7):
                self.check_growth(off, row(*[0] * ahead, 3, HALF, 7, -2))
                self.check_growth(off, row(*[0] * ahead, 1, 0, 0, 0))

    def test_one_number_behind_many_noughts(self):
        for off in OFFS:
            for ahead in range(24):
                grower = grown(off, row(*[0] * ahead, HALF))
                length = max(0, ahead - off)
                self.assertEqual(grower.length(), length)
                self.assertEqual(grower.jumps(), [(0, 0)] + [(ahead + 1, length)] * (length > 0))
                self.assertEqual(grower.told() is None, ahead + 1 < 2 * length + off + 1)

    def test_ordinary_rows(self):
        for numbers in some_rows("growing", 30, 9, 3):
            for off in OFFS[:5]:
                self.check_growth(off, numbers)
        for numbers in some_rows("growing on", 8, 13, 2):
            for off in OFFS:
                self.check_growth(off, numbers)

    def test_all_small_rows(self):
        for code in range(3**5):
            numbers = row(*[code // 3**place % 3 - 1 for place in range(5)])
            for off in (-1, 0, 1):
                self.check_growth(off, numbers)

    def test_rows_of_quotients(self):
        for one in some_quotients("growing", 24, 4, 4, 3):
            numbers = row_of(one, 20)
            for off in OFFS:
                grower = grown(off, numbers)
                length = max(len(one[0]) - 1 - off, len(one[1]) - 1) if one[0] else 0
                self.assertEqual(grower.length(), length)
                self.assertEqual(grower.told(), one)

    def test_rows_of_quotients_with_a_place_changed(self):
        for one in some_quotients("changed", 10, 3, 2, 2):
            for place in (0, 3, 7, 9):
                numbers = changed(row_of(one, 10), place)
                for off in (-1, 0, 2, 5):
                    self.check_growth(off, numbers)

    def test_told_quotients_are_of_their_heights_and_agree(self):
        for numbers in some_rows("heights", 40, 14, 4):
            for off in OFFS:
                grower = grown(off, numbers)
                n, one = grower.length(), grower.told()
                if one is not None:
                    self.assertTrue(is_plain_quotient(one), one)
                    self.assertLessEqual(len(one[0]) - 1, n + off)
                    self.assertLessEqual(len(one[1]) - 1, n)
                    self.assertEqual(agreement_by_hand(numbers, one), len(numbers))
                if n > 0:
                    self.assertIsNone(belows_by_hand(numbers, n - 1 + off, n - 1, len(numbers)))

    def test_belows_that_change_from_place_to_place(self):
        # Each number brings a new below, so that all that is kept has to be taken more often.
        for off in OFFS:
            self.check_growth(off, row(*[Fraction((-1) ** k, k + 2) for k in range(10)]))
            self.check_growth(off, row(*[Fraction(k, 7**k) for k in range(9)]))
            self.check_growth(off, row(0, 0, *[Fraction(1, 3**k) for k in range(6)], Fraction(1, 5), Fraction(1, 2)))

    def test_two_by_turns(self):
        rows = some_rows("turns", 12, 10, 3)
        for one, other in zip(rows, rows[::-1]):
            left, right = Grower(-1), Grower(3)
            for k in range(max(len(one), len(other))):
                if k < len(one):
                    left.put(one[k])
                if k < len(other):
                    right.put(other[k])
            for grower, off, numbers in ((left, -1, one), (right, 3, other)):
                alone = grown(off, numbers)
                for deed in ("told_row", "length", "told", "jumps"):
                    self.assertEqual(getattr(grower, deed)(), getattr(alone, deed)())

    def test_24_places_of_forty_figures(self):
        numbers = [pair(value or 1) for value in some_fractions("forty", 24, 40)]
        for off in OFFS:
            grower = grown(off, numbers)
            one = grower.told()
            n = (24 - off) // 2
            self.assertEqual(grower.length(), n)
            if 24 >= 2 * n + off + 1:
                self.assertEqual(one, furthest(numbers, n + off, n))
            else:
                self.assertIsNone(one)


class Told(unittest.TestCase):
    """What a Grower tells is the asker's own."""

    def test_kinds(self):
        grower = grown(-1, row(1, 2, 4, 9))
        self.assertIs(type(grower.told_row()), list)
        self.assertIs(type(grower.jumps()), list)
        self.assertIs(type(grower.length()), int)
        self.assertTrue(all(type(jump) is tuple and len(jump) == 2 for jump in grower.jumps()))
        self.assertTrue(all(type(each) is int for jump in grower.jumps() for each in jump))
        self.assertTrue(is_plain_quotient(grown(-1, row(1, 2, 4, 8)).told()))

    def test_asking_changes_nothing(self):
        for numbers in some_rows("asking", 20, 9, 2):
            for off in (-1, 2):
                asked = Grower(off)
                for number in numbers:
                    asked.put(number)
                    for deed in (asked.told_row, asked.length, asked.told, asked.jumps):
                        self.assertEqual(repr(deed()), repr(deed()))
                alone = grown(off, numbers)
                for deed in ("told_row", "length", "told", "jumps"):
                    self.assertEqual(repr(getattr(asked, deed)()), repr(getattr(alone, deed)()))

    def test_told_lists_are_new(self):
        grower = grown(-1, row(1, 2, 4, 9))
        for deed in (grower.told_row, grower.jumps):
            kept = repr(deed())
            first, second = deed(), deed()
            self.assertIsNot(first, second)
            first.append((7, 7))
            first[0] = None
            self.assertEqual(repr(second), kept)
            self.assertEqual(repr(deed()), kept)
        grower.told_row().clear()
        grower.jumps().clear()
        grower.put((1, 3))
        self.assertEqual(grower.told_row(), row(1, 2, 4, 9, Fraction(1, 3)))
        self.assertEqual(grower.length(), 3)

    def test_told_things_stay_while_it_grows_on(self):
        for off in (-1, 0, 4):
            grower, kept = Grower(off), []
            for number in some_rows("growing on", 12, 12, 2)[-1] + row(0, 5, 0, 0, 7, 7, 7):
                told = [grower.told_row(), grower.length(), grower.told(), grower.jumps()]
                kept.append((told, copy.deepcopy(told)))
                grower.put(number)
            for told, copied in kept:
                self.assertEqual(repr(told), repr(copied))

    def test_arguments_bear_their_names(self):
        grower = Grower(off=-1)
        grower.put(number=(0, 1))
        self.assertEqual(grower.told(), NOUGHT)
        self.assertEqual(by_growing(row=row(1, 1), m=0, n=1), quotient([1], [1, -1]))


class ByGrowing(unittest.TestCase):
    def check_far(self, numbers, m, n):
        told = by_growing(numbers, m, n)
        self.assertTrue(is_plain_quotient(told), told)
        self.assertEqual(told, furthest(numbers, m, n), (numbers, m, n))
        self.assertEqual(told, by_parting(numbers, m, n), (numbers, m, n))

    def test_examples(self):
        self.assertEqual(by_growing(row(1, 1, 1), 0, 1), quotient([1], [1, -1]))
        self.assertEqual(by_growing(row(1, 1, HALF), 1, 1), quotient([1, HALF], [1, -HALF]))
        self.assertEqual(by_growing(row(1, 1, HALF), 0, 2), quotient([1], [1, -1, HALF]))
        self.assertEqual(by_growing(row(0, 1, 1, 2, 3), 2, 2), quotient([0, 1], [1, -1, -1]))
        self.assertEqual(by_growing(row(1, 0, 1), 1, 1), quotient([1], [1]))
        self.assertEqual(by_growing(row(0, 0, 1, 5), 1, 2), NOUGHT)

    def test_against_the_other_ways(self):
        for numbers in some_rows("by growing", 60, 10, 3):
            for m in range(len(numbers)):
                for n in range(len(numbers) - m):
                    self.check_far(numbers, m, n)

    def test_all_small_rows(self):
        for code in range(3**6):
            numbers = row(*[code // 3**place % 3 - 1 for place in range(6)])
            for m in range(6):
                self.check_far(numbers, m, 5 - m)

    def test_rows_of_24_places(self):
        numbers = [pair(value or 1) for value in some_fractions("far", 24, 6)]
        for one in (numbers, numbers[:12] + row(*[0] * 12), row(*[0] * 12) + numbers[:12], row_of(NOUGHT, 24)):
            for m, n in ((0, 23), (1, 22), (5, 18), (11, 12), (12, 11), (18, 5), (22, 1), (23, 0), (0, 10), (10, 0)):
                self.assertEqual(by_growing(one, m, n), furthest(one, m, n))

    def test_rows_of_quotients(self):
        for one in some_quotients("by growing", 20, 3, 3, 3):
            numbers = polynomial(*row_by_hand(one, 12))
            for m in range(3, 8):
                for n in range(3, 12 - m):
                    self.assertEqual(by_growing(numbers, m, n), one)

    def test_just_enough_places_and_one_too_few(self):
        numbers = [pair(value or 1) for value in some_fractions("enough", 24, 3)]
        for m, n in ((0, 0), (0, 1), (1, 0), (0, 9), (9, 0), (2, 9), (9, 2), (5, 5), (11, 12), (0, 23), (23, 0)):
            self.check_far(numbers[: m + n + 1], m, n)
            check_refusal(self, TooShort, by_growing, numbers[: m + n], m, n)
            check_refusal(self, TooShort, by_growing, tuple(numbers[: m + n]), m, n)

    def test_far_too_few_places(self):
        for m, n in ((1, 1), (23, 23), (0, 23), (23, 0)):
            check_refusal(self, TooShort, by_growing, row(1), m, n)

    def test_forty_figures(self):
        numbers = [pair(value or 1) for value in some_fractions("forty figures", 24, 40)]
        for m, n in ((12, 11), (0, 23), (4, 19), (19, 4)):
            self.assertEqual(by_growing(numbers, m, n), furthest(numbers, m, n))

    def test_handed_in_things_stay(self):
        for numbers in some_rows("handed", 30, 8, 2):
            for m in range(len(numbers)):
                told = told_without_change(self, by_growing, numbers, m, len(numbers) - 1 - m)
                again = told_without_change(self, by_growing, tuple(numbers), m, len(numbers) - 1 - m)
                self.assertEqual(repr(again), repr(told))

    def test_told_things_may_be_handed_in_again(self):
        one = by_growing(row(*some_fractions("told", 12, 12)[::-1]), 6, 5)
        self.assertEqual(by_growing(row_of(one, 14), 7, 6), one)
        self.assertEqual(grown(1, row_of(one, 14)).told(), one)


if __name__ == "__main__":
    unittest.main()

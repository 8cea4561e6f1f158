import unittest
from fractions import Fraction

from farquotient.blocks import block_of, blocks, shows_blocks, table
from farquotient.equations import furthest
from farquotient.errors import TooShort
from farquotient.quotients import agrees, heights, row_of
from tests.helper import (
    NEITHER,
    NO_QUOTIENTS,
    agreement_by_hand,
    as_lists,
    check_refusal,
    is_plain_quotient,
    pair,
    polynomial,
    quotient,
    some_fractions,
    some_quotients,
    some_rows,
    told_without_change,
)

NOUGHT = ((), ((1, 1),))
HALF = Fraction(1, 2)


def row(*values):
    return list(polynomial(*values))


def far_at_all_heights(numbers):
    """The furthest quotients of all heights for which a row has places, by their heights."""
    places = len(numbers)
    return {(m, n): furthest(numbers, m, n) for m in range(places) for n in range(places - m)}


def square(numbers, a, b, side):
    """The heights that a square tells, as far as the row has places."""
    places = len(numbers)
    last = places if side is None else side
    return {(i, j) for i in range(a, a + last + 1) for j in range(b, b + last + 1) if i + j < places}


class BlockOf(unittest.TestCase):
    def check_all(self, numbers):
        """Looks at the squares of all heights against the furthest quotients of all heights."""
        far = far_at_all_heights(numbers)
        for m, n in far:
            told, one = block_of(numbers, m, n), far[(m, n)]
            if one == NOUGHT:
                self.assertIsNone(told)
                continue
            self.assertIs(type(told), tuple)
            a, b, side = told
            self.assertEqual((a, b), (len(one[0]) - 1, len(one[1]) - 1))
            self.assertEqual(square(numbers, a, b, side), {here for here in far if far[here] == one}, (numbers, m, n))
            self.assertEqual(side is None, agreement_by_hand(numbers, one) == len(numbers))
            self.assertTrue(all(type(each) is int for each in (a, b)) and (side is None or type(side) is int))

    def test_examples(self):
        self.assertEqual(block_of(row(1, 1, HALF, 3), 1, 1), (1, 1, 0))
        self.assertEqual(block_of(row(1, 0, 0, 5), 0, 0), (0, 0, 2))
        self.assertEqual(block_of(row(1, 0, 0, 5), 1, 2), (0, 0, 2))
        self.assertEqual(block_of(row(1, 0, 0, 5), 3, 0), (3, 0, None))
        self.assertEqual(block_of(row(0, 1, 1, 2, 3, 5), 2, 2), (1, 2, None))
        self.assertEqual(block_of(row(1, 2, 4, 8), 1, 1), (0, 1, None))
        self.assertEqual(block_of(row(1, 2, 4, 8, 17, 0), 1, 1), (0, 1, 2))

    def test_one_place(self):
        self.assertEqual(block_of(row(7), 0, 0), (0, 0, None))
        self.assertIsNone(block_of(row(0), 0, 0))

    def test_nought(self):
        for places in (1, 2, 5, 24):
            for m, n in ((0, 0), (places - 1, 0), (0, places - 1), (places // 2, (places - 1) // 2)):
                self.assertIsNone(block_of([(0, 1)] * places, m, n))
        numbers = row(0, 0, 3, HALF, 1, 2)
        for m, n in far_at_all_heights(numbers):
            self.assertEqual(block_of(numbers, m, n) is None, m < 2)

    def test_the_side_where_just_the_last_place_fails(self):
        for one in some_quotients("last", 12, 2, 2, 2):
            numbers = row_of(one, 9)
            a, b = heights(one)
            if one != NOUGHT:
                self.assertEqual(block_of(numbers, 3, 3), (a, b, None))
                top, below = numbers[8]
                self.assertEqual(block_of(numbers[:8] + [(top + below, below)], 3, 3), (a, b, 8 - a - b - 1))

    def test_all_heights(self):
        for numbers in some_rows("blocks", 60, 9, 2):
            self.check_all(numbers)

    def test_all_small_rows(self):
        for code in range(3**5):
            self.check_all(row(*[code // 3**place % 3 - 1 for place in range(5)]))

    def test_too_short(self):
        numbers = row(*some_fractions("short", 12, 2))
        for m, n in ((0, 1), (1, 0), (5, 6), (11, 0), (0, 11)):
            block_of(numbers[: m + n + 1], m, n)
            check_refusal(self, TooShort, block_of, numbers[: m + n], m, n)
        check_refusal(self, TooShort, block_of, row(0, 0), 1, 1)
        check_refusal(self, TooShort, block_of, row(1), 23, 23)

    def test_of_24_places_and_forty_figures(self):
        numbers = [pair(value or 1) for value in some_fractions("forty", 24, 40)]
        self.assertEqual(block_of(numbers, 12, 11), (12, 11, None))
        self.assertEqual(block_of(numbers, 8, 11), (8, 11, 0))


class Table(unittest.TestCase):
    def check_table(self, numbers):
        told = table(numbers)
        self.assertIs(type(told), list)
        self.assertEqual([len(column) for column in told], list(range(len(numbers), 0, -1)))
        for m, column in enumerate(told):
            self.assertIs(type(column), list)
            self.assertEqual(column, [furthest(numbers, m, n) for n in range(len(numbers) - m)])

    def test_examples(self):
        self.assertEqual(table(row(5)), [[quotient([5], [1])]])
        self.assertEqual(table(row(0)), [[NOUGHT]])
        self.assertEqual(table(row(1, 1)), [[quotient([1], [1]), quotient([1], [1, -1])], [quotient([1, 1], [1])]])
        self.assertEqual(table(row(0, 2)), [[NOUGHT, NOUGHT], [quotient([0, 2], [1])]])

    def test_rows_of_one_place_to_fifteen(self):
        for places in range(1, 16):
            self.check_table([pair(value or 1) for value in some_fractions(f"table {places}", 18, 2)][:places])
        for numbers in some_rows("table", 60, 9, 2):
            self.check_table(numbers)

    def test_all_small_rows(self):
        for code in range(3**5):
            self.check_table(row(*[code // 3**place % 3 - 1 for place in range(5)]))


class Blocks(unittest.TestCase):
    def check_blocks(self, numbers):
        told = blocks(numbers)
        self.assertIs(type(told), list)
        far = far_at_all_heights(numbers)
        self.assertEqual({block[3] for block in told}, set(far.values()) - {NOUGHT})
        self.assertEqual(len({block[3] for block in told}), len(told))
        self.assertEqual([block[:2] for block in told], sorted({block[:2] for block in told}))
        for block in told:
            self.assertIs(type(block), tuple)
            a, b, side, one = block
            self.assertTrue(type(a) is int and type(b) is int and (side is None or type(side) is int))
            self.assertTrue(is_plain_quotient(one))
            self.assertEqual((a, b, side), block_of(numbers, a, b))
            self.assertEqual(square(numbers, a, b, side), {here for here in far if far[here] == one})
        self.assertIs(shows_blocks(numbers, told), True)

    def test_examples(self):
        self.assertEqual(blocks(row(0)), [])
        self.assertEqual(blocks(row(0, 0, 0)), [])
        self.assertEqual(blocks(row(7)), [(0, 0, None, quotient([7], [1]))])
        self.assertEqual(
            blocks(row(1, 0, 3)), [(0, 0, 1, quotient([1], [1])), (0, 2, None, quotient([1], [1, 0, -3])),
                                   (2, 0, None, quotient([1, 0, 3], [1]))]
        )
        self.assertEqual(
            blocks(row(0, 2, 6)), [(1, 0, 0, quotient([0, 2], [1])), (1, 1, None, quotient([0, 2], [1, -3])),
                                   (2, 0, None, quotient([0, 2, 6], [1]))]
        )

    def test_rows_of_one_place_to_fifteen(self):
        for places in range(1, 16):
            numbers = [pair(value or 1) for value in some_fractions(f"blocks {places}", 18, 1)][:places]
            told = blocks(numbers)
            self.assertEqual([block[3] for block in told], [furthest(numbers, *block[:2]) for block in told])
            self.assertEqual([block[:3] for block in told], [block_of(numbers, *block[:2]) for block in told])
            covered = [here for block in told for here in square(numbers, *block[:3])]
            self.assertEqual(sorted(covered), [(m, n) for m in range(places) for n in range(places - m)])

    def test_against_all_heights(self):
        for numbers in some_rows("blocks", 50, 8, 2):
            self.check_blocks(numbers)

    def test_all_small_rows(self):
        for code in range(3**5):
            self.check_blocks(row(*[code // 3**place % 3 - 1 for place in range(5)]))

    def test_rows_of_quotients_of_24_places(self):
        for one in some_quotients("24", 6, 3, 3, 2):
            numbers = row_of(one, 24)
            told = blocks(numbers)
            if one != NOUGHT:
                self.assertIn(heights(one) + (None, one), told)
            for a, b, side, far in told:
                self.assertEqual((a, b), heights(far))
                places = agrees(numbers, far)
                self.assertEqual(side, None if places == 24 else places - a - b - 1)
            self.assertIs(shows_blocks(numbers, told), True)


class ShowsBlocks(unittest.TestCase):
    def setUp(self):
        self.rows = some_rows("shows", 30, 6, 2) + [row(1, 0, 3, 0, 1), row(0, 2, 6, 1), row(1, 2, 4, 8, 9)]

    def check_no(self, numbers, thing):
        self.assertIs(told_without_change(self, shows_blocks, numbers, thing), False, thing)

    def test_lists_and_tuples(self):
        for numbers in self.rows:
            told = blocks(numbers)
            for thing in (told, tuple(told), [list(block) for block in told], tuple(list(block) for block in told)):
                self.assertIs(told_without_change(self, shows_blocks, numbers, thing), True)
                self.assertIs(shows_blocks(tuple(numbers), thing), True)
            mixed = [list(block) if k % 2 else block for k, block in enumerate(told)]
            self.assertIs(shows_blocks(numbers, mixed), True)

    def test_left_out_twice_exchanged_put_behind(self):
        for numbers in self.rows:
            told = blocks(numbers)
            for k, block in enumerate(told):
                self.check_no(numbers, told[:k] + told[k + 1 :])
                self.check_no(numbers, told[:k] + [block] + told[k:])
                self.check_no(numbers, told[:k] + told[k + 1 :] + [block] if block != told[-1] else told + [block])
                self.check_no(numbers, told + [block])
            for k in range(len(told) - 1):
                self.check_no(numbers, told[:k] + [told[k + 1], told[k]] + told[k + 2 :])
            if told:
                self.check_no(numbers, [])
                self.check_no(numbers, ())
            self.check_no(numbers, told + [(-1, 0, None, NOUGHT)])
            self.check_no(numbers, [(-1, 0, 0, NOUGHT)] + told)
            self.check_no(numbers, told + [None])
            self.check_no(numbers, told + [[]])

    def changed(self, block):
        """Squares near to a told one, but not it."""
        a, b, side, one = block
        top, below = one
        yield from ((a + 1, b, side, one), (a, b + 1, side, one), (a - 1, b, side, one), (a, b - 1, side, one))
        yield (b, a, side, one) if a != b else (a, b, side)
        yield (a, b, 0 if side is None else side + 1, one)
        yield (a, b, 7 if side is None else None, one)
        yield (a, b, -1, one)
        yield from ((a, b, False, one), (a, b, "", one), (a, b, (side,), one), (a, b, str(side), one))
        yield from ((a, b, one), (a, b, side), (a, b, side, one, one), (a, b, one, side), (), (one,), block + (None,))
        yield from ((a, b, side, as_lists(one)), (a, b, side, (list(top), below)), (a, b, side, (top, list(below))))
        yield (a, b, side, [top, below])
        yield from ((a, b, side, NOUGHT), (a, b, side, (top + ((1, 1),), below)), (a, b, side, (top, below + ((1, 1),))))
        yield (a, b, side, (top + ((0, 1),), below))
        yield (a, b, side, (tuple((2 * t, 2 * u) for t, u in top), below))
        yield (a, b, side, (tuple(list(number) for number in top), below))
        yield (a, b, side, (top, tuple(list(number) for number in below)))
        yield (a, b, side, (top, ((True, 1),) + below[1:]))
        yield (a, b, side, (top, ((1, True),) + below[1:]))
        yield (a, b, side, (tuple((t, True) if u == 1 else (2 * t, 2 * u) for t, u in top), below))
        yield from ((str(a), b, side, one), (a, None, side, one), ((a,), b, side, one), (a, [b], side, one))

    def test_changed_squares(self):
        for numbers in self.rows:
            told = blocks(numbers)
            for k, block in enumerate(told):
                for thing in self.changed(block):
                    self.check_no(numbers, told[:k] + [thing] + told[k + 1 :])
                    self.check_no(numbers, told[:k] + [list(thing)] + told[k + 1 :])

    def test_truths_for_numbers(self):
        numbers = row(1, 0, 3, 0, 1, 5, 2)
        told = blocks(numbers)
        alike = 0
        for k, (a, b, side, one) in enumerate(told):
            for thing in ((bool(a), b, side, one), (a, bool(b), side, one), (a, b, bool(side), one)):
                alike += thing == (a, b, side, one)
                self.check_no(numbers, told[:k] + [thing] + told[k + 1 :])
                self.check_no(numbers, told[:k] + [list(thing)] + told[k + 1 :])
        self.assertGreater(alike, 9)

    def test_other_ends(self):
        numbers = row(1, 2, 4, 8, 16)
        self.assertEqual(blocks(numbers)[1], (0, 1, None, quotient([1], [1, -2])))
        for side in (0, 1, 2, 3, 4, 5, 23, False, True, "None", ()):
            told = blocks(numbers)
            told[1] = (0, 1, side, quotient([1], [1, -2]))
            self.check_no(numbers, told)

    def test_of_another_row(self):
        for one in self.rows:
            for other in self.rows[::3]:
                if one[: len(other)] != other:
                    self.assertIs(shows_blocks(one, blocks(other)), blocks(one) == blocks(other))

    def test_things_of_no_kind(self):
        for thing in NEITHER + NO_QUOTIENTS:
            for numbers in (row(1, 0, 3), row(5)):
                self.check_no(numbers, thing)
                self.check_no(numbers, [thing])
                self.check_no(numbers, [(0, 0, None, thing)])
                self.check_no(numbers, [thing] * len(blocks(numbers)))

    def test_of_noughts(self):
        for places in (1, 3, 9):
            for thing in ([], ()):
                self.assertIs(shows_blocks([(0, 1)] * places, thing), True)
            for thing in (None, False, 0, "", [()], [[]], ((),), [(-1, 0, None, NOUGHT)], [(0, 0, None, NOUGHT)], [None]):
                self.check_no([(0, 1)] * places, thing)


class HandedIn(unittest.TestCase):
    def test_rows(self):
        for numbers in some_rows("handed", 20, 7, 2):
            for deed in (table, blocks):
                told = told_without_change(self, deed, numbers)
                self.assertEqual(repr(told_without_change(self, deed, tuple(numbers))), repr(told))
            for m in range(len(numbers)):
                n = len(numbers) - 1 - m
                told = told_without_change(self, block_of, numbers, m, n)
                self.assertEqual(repr(told_without_change(self, block_of, tuple(numbers), m, n)), repr(told))

    def test_told_lists_are_new(self):
        for numbers in (row(1, 0, 3, 4), row(0, 0, 0), row(1, 2, 4, 8)):
            kept = repr((table(numbers), blocks(numbers)))
            first, second = table(numbers), table(numbers)
            lists = [first] + first + [second] + second
            self.assertEqual(len({id(each) for each in lists}), len(lists))
            for column in first:
                column.clear()
            first.clear()
            told = blocks(numbers)
            self.assertIsNot(told, blocks(numbers))
            told.clear()
            self.assertEqual(repr((second, blocks(numbers))), kept)

    def test_a_row_changed_later_changes_nothing_told(self):
        numbers = row(1, 2, 4, 9)
        told = (table(numbers), blocks(numbers), block_of(numbers, 1, 1))
        kept = repr(told)
        numbers[0] = (7, 1)
        numbers.append((3, 1))
        self.assertEqual(repr(told), kept)

    def test_arguments_bear_their_names(self):
        self.assertEqual(block_of(row=row(1), m=0, n=0), (0, 0, None))
        self.assertEqual(table(row=row(1)), [[quotient([1], [1])]])
        self.assertEqual(blocks(row=row(1)), [(0, 0, None, quotient([1], [1]))])
        self.assertIs(shows_blocks(row=row(1), thing=[]), False)

    def test_24_places_of_twelve_figures(self):
        numbers = [pair(value or 1) for value in some_fractions("twelve", 24, 12)]
        told = table(numbers)
        self.assertEqual([len(column) for column in told], list(range(24, 0, -1)))
        for m, n in ((0, 23), (23, 0), (12, 11), (3, 9)):
            self.assertEqual(told[m][n], furthest(numbers, m, n))

    def test_24_places_with_tops_of_forty_figures(self):
        values = [(value or 1) * 10**20 for value in some_fractions("tops", 24, 20)]
        numbers = [pair(Fraction(value.numerator, 1 + value.denominator % 9)) for value in values]
        told = blocks(numbers)
        self.assertEqual([block[:3] for block in told], [block_of(numbers, *block[:2]) for block in told])
        self.assertEqual(sum(len(square(numbers, *block[:3])) for block in told), 300)
        self.assertIs(shows_blocks(numbers, told), True)


if __name__ == "__main__":
    unittest.main()

import random
import unittest
from fractions import Fraction

from farquotient.equations import furthest, never_paper, shows_furthest, shows_never, spare
from farquotient.errors import TooShort
from farquotient.quotients import agrees, heights, is_quotient, row_of
from tests.helper import (
    NO_QUOTIENTS,
    agreement_by_hand,
    as_lists,
    belows_by_hand,
    check_refusal,
    cut,
    fraction,
    fractions_of,
    is_plain_number,
    is_plain_quotient,
    pair,
    polynomial,
    product_of,
    quotient,
    row_by_hand,
    some_fractions,
    some_quotients,
    some_rows,
    told_without_change,
    top_by_hand,
)

NOUGHT = ((), ((1, 1),))
UNIT = (((1, 1),), ((1, 1),))
HALF = Fraction(1, 2)


def heights_within(places):
    """All heights for which a row of so many places has enough."""
    return [(m, n) for m in range(places) for n in range(places - m)]


def row(*values):
    return list(polynomial(*values))


class Furthest(unittest.TestCase):
    def check_furthest(self, numbers, m, n):
        """Checks the told quotient by its own row, and all others by the equations."""
        told = furthest(numbers, m, n)
        self.assertTrue(is_plain_quotient(told), told)
        self.assertLessEqual(len(told[0]) - 1, m)
        self.assertLessEqual(len(told[1]) - 1, n)
        places = agreement_by_hand(numbers, told)
        spared = n if not told[0] else min(m - len(told[0]) + 1, n - len(told[1]) + 1)
        self.assertGreaterEqual(places, m + n + 1 - spared)
        if places < len(numbers):
            self.assertIsNone(belows_by_hand(numbers, m, n, places + 1))
        below, more = belows_by_hand(numbers, m, n, places)
        for added in [[0] * (n + 1)] + more:
            other = [a + b for a, b in zip(below, added)]
            top = polynomial(*cut(top_by_hand(numbers, other, m)))
            self.assertEqual(product_of(top, told[1]), product_of(told[0], polynomial(*cut(other))))

    def test_examples(self):
        self.assertEqual(furthest(row(1, 1, 1), 0, 1), quotient([1], [1, -1]))
        self.assertEqual(furthest(row(1, 1, HALF), 1, 1), quotient([1, HALF], [1, -HALF]))
        self.assertEqual(furthest(row(1, 1, HALF), 0, 2), quotient([1], [1, -1, HALF]))
        self.assertEqual(furthest(row(1, 1, HALF), 2, 0), quotient([1, 1, HALF], [1]))
        self.assertEqual(furthest(row(0, 1, 1, 2, 3), 2, 2), quotient([0, 1], [1, -1, -1]))

    def test_where_the_equations_have_noughts_ahead_in_the_below(self):
        # Below times the row can be made nought far enough only by a below that x goes into.
        self.assertEqual(furthest(row(1, 0, 1), 1, 1), quotient([1], [1]))
        self.assertEqual(furthest(row(1, 0, 0, 1), 1, 2), quotient([1], [1]))
        self.assertEqual(furthest(row(1, 1, 0, 0, 7), 2, 2), quotient([1, 1], [1]))

    def test_of_noughts_alone(self):
        for places in (1, 2, 5, 24):
            for m, n in heights_within(places)[:: max(1, places // 3)]:
                self.assertEqual(furthest([(0, 1)] * places, m, n), NOUGHT)

    def test_noughts_ahead(self):
        for ahead in range(5):
            numbers = row(*[0] * ahead, 3, HALF, 7, -2, 1, 1)
            for m, n in heights_within(len(numbers)):
                self.assertEqual(furthest(numbers, m, n) == NOUGHT, m < ahead)
                self.check_furthest(numbers, m, n)

    def test_one_place(self):
        self.assertEqual(furthest(row(0), 0, 0), NOUGHT)
        self.assertEqual(furthest(row(Fraction(-2, 3)), 0, 0), quotient([Fraction(-2, 3)], [1]))

    def test_heights_with_0(self):
        numbers = row(2, 3, 5, 7, 0, 11)
        for m in range(6):
            self.assertEqual(furthest(numbers, m, 0), quotient(cut([2, 3, 5, 7, 0, 11][: m + 1]), [1]))
        for n in range(6):
            told = furthest(numbers, 0, n)
            self.assertEqual(told[0], ((2, 1),))
            self.assertGreaterEqual(agreement_by_hand(numbers, told), n + 1)

    def test_all_heights_of_some_rows(self):
        for numbers in some_rows("furthest", 60, 9, 2):
            for m, n in heights_within(len(numbers)):
                self.check_furthest(numbers, m, n)

    def test_all_small_rows(self):
        for code in range(3**6):
            numbers = row(*[code // 3**place % 3 - 1 for place in range(6)])
            for m, n in heights_within(6):
                self.check_furthest(numbers, m, n) if m + n == 5 else None
                self.assertIs(shows_furthest(numbers, m, n, furthest(numbers, m, n)), True)

    def test_only_the_first_places_count(self):
        for numbers in some_rows("first places", 30, 10, 2):
            for m, n in heights_within(len(numbers)):
                told = furthest(numbers, m, n)
                self.assertEqual(furthest(numbers[: m + n + 1], m, n), told)
                self.assertEqual(furthest(numbers + row(5, 0, HALF), m, n), told)

    def test_rows_of_a_quotient_tell_it_again(self):
        for one in some_quotients("again", 40, 5, 5, 6):
            a, b = heights(one)
            for m in range(max(a, 0), a + 4):
                for n in range(b, b + 4):
                    for more in (0, 1, 4):
                        self.assertEqual(furthest(row_of(one, m + n + 1 + more), m, n), one)

    def test_of_forty_figures_and_24_places(self):
        numbers = row(*some_fractions("far", 24, 40)[::-1])
        for m, n in ((23, 0), (18, 5), (5, 6), (4, 4), (15, 8)):
            told = furthest(numbers, m, n)
            self.assertTrue(all(is_plain_number(number) for part in told for number in part))
            self.assertEqual(agreement_by_hand(numbers, told), min(m + n + 1, 24))
            self.assertIs(shows_furthest(numbers, m, n, told), True)

    def test_just_enough_places_and_one_too_few(self):
        for places in (1, 2, 3, 8, 24):
            numbers = row(*range(1, places + 1))
            for m in range(places + 1):
                if m < places:
                    self.assertTrue(is_quotient(furthest(numbers, m, places - 1 - m)))
                check_refusal(self, TooShort, furthest, numbers, m, places - m)
        check_refusal(self, TooShort, furthest, row(1), 23, 23)
        check_refusal(self, TooShort, furthest, row(0, 0), 1, 1)
        check_refusal(self, TooShort, furthest, tuple(row(0, 0)), 0, 2)


class Spare(unittest.TestCase):
    def test_examples(self):
        self.assertEqual(spare(quotient([1, 1], [1, 2, 3]), 1, 2), 0)
        self.assertEqual(spare(quotient([1, 1], [1, 2, 3]), 5, 2), 0)
        self.assertEqual(spare(quotient([1, 1], [1, 2, 3]), 1, 9), 0)
        self.assertEqual(spare(quotient([1, 1], [1, 2, 3]), 5, 9), 4)
        self.assertEqual(spare(quotient([1, 1], [1, 2, 3]), 8, 5), 3)
        self.assertEqual(spare(UNIT, 3, 2), 2)
        self.assertEqual(spare(UNIT, 0, 0), 0)

    def test_of_nought(self):
        for m in (0, 1, 5, 23):
            for n in (0, 1, 2, 7, 23):
                self.assertEqual(spare(NOUGHT, m, n), n)

    def test_the_furthest_is_just_who_agrees_so_far(self):
        rows = some_rows("spare", 40, 7, 1)
        ones = some_quotients("spare", 20, 3, 3, 1)
        for numbers in rows:
            for m, n in heights_within(len(numbers)):
                told = furthest(numbers, m, n)
                for one in ones + [furthest(numbers, k, n - 1) for k in range(m + 1) if n > 0]:
                    if len(one[0]) <= m + 1 and len(one[1]) <= n + 1:
                        far = agreement_by_hand(numbers, one) >= m + n + 1 - spare(one, m, n)
                        self.assertEqual(far, one == told, (numbers, m, n, one))


class ShowsFurthest(unittest.TestCase):
    def test_the_furthest_is_shown(self):
        for numbers in some_rows("shows", 40, 10, 3):
            for m, n in heights_within(len(numbers)):
                self.assertIs(shows_furthest(numbers, m, n, furthest(numbers, m, n)), True)

    def test_no_other_is(self):
        ones = some_quotients("others", 30, 3, 3, 1)
        for numbers in some_rows("others", 40, 8, 1):
            for m, n in heights_within(len(numbers)):
                told = furthest(numbers, m, n)
                for one in ones + [furthest(numbers, k, 0) for k in range(len(numbers))]:
                    self.assertIs(shows_furthest(numbers, m, n, one), one == told, (numbers, m, n, one))

    def test_too_high_ones_are_not(self):
        numbers = row(1, 2, 4, 8, 17, 1)
        self.assertIs(shows_furthest(numbers, 1, 1, quotient([1, 2, 4], [1])), False)
        self.assertIs(shows_furthest(numbers, 2, 0, quotient([1], [1, -2])), False)
        self.assertIs(shows_furthest(numbers, 0, 1, quotient([1], [1, -2])), True)
        self.assertIs(shows_furthest(row(1, 1, 1, 1), 0, 0, quotient([1], [1, -1])), False)

    def test_nought(self):
        self.assertIs(shows_furthest(row(0, 0, 1, 5), 0, 0, NOUGHT), True)
        self.assertIs(shows_furthest(row(0, 0, 1, 5), 1, 2, NOUGHT), True)
        self.assertIs(shows_furthest(row(0, 0, 1, 5), 2, 1, NOUGHT), False)
        self.assertIs(shows_furthest(row(0, 0, 0, 0), 0, 3, NOUGHT), True)
        self.assertIs(shows_furthest(row(0, 5, 0, 0), 0, 3, NOUGHT), True)
        self.assertIs(shows_furthest(row(1), 0, 0, NOUGHT), False)

    def test_wrong_things_are_not(self):
        for thing in NO_QUOTIENTS:
            for numbers in (row(0, 0, 0, 0), row(1, 1, 1, 1), row(1, 0, 0, 0), row(1, -1, 1, -1)):
                for m, n in ((0, 0), (1, 1), (2, 1), (0, 3)):
                    self.assertIs(shows_furthest(numbers, m, n, thing), False, thing)

    def test_lists_and_other_forms_of_the_furthest_are_not(self):
        numbers = row(3, 1, HALF, 2, 5)
        top, below = furthest(numbers, 2, 2)
        twice = lambda part: tuple((2 * number[0], 2 * number[1]) for number in part)
        doubled = lambda part: tuple(pair(2 * number) for number in fractions_of(part))
        factor = polynomial(1, 1)
        for thing in (
            [top, below], (list(top), below), (top, list(below)), [list(top), list(below)],
            (tuple(list(number) for number in top), below), (twice(top), below), (top, twice(below)),
            (doubled(top), doubled(below)), (top,), (top, below, below), ((top, below),), (below, top),
            (top + ((0, 1),), below), (top, below + ((0, 1),)), (top, below, None), str((top, below)),
            (product_of(top, factor), product_of(below, factor)), (top, ((True, 1),) + below[1:]),
            (top[:-1] + (True,), below), (top[:-1] + (None,), below), None, True, 0,
        ):
            for m, n in ((2, 2), (1, 2), (3, 1)):
                self.assertIs(shows_furthest(numbers, m, n, thing), False, thing)
        self.assertIs(shows_furthest(numbers, 2, 2, (top, below)), True)


class Never(unittest.TestCase):
    def check_never(self, numbers, m, n, many):
        """Checks what is told by the equations themselves."""
        told = never_paper(numbers, m, n, many)
        if belows_by_hand(numbers, m, n, many) is not None:
            self.assertIsNone(told)
            return
        self.assertIs(type(told), tuple)
        self.assertTrue(all(is_plain_number(number) for number in told), told)
        self.assertEqual(len(told), many - m - 1)
        self.assertEqual(self.sums(numbers, m, n, told)[1:], [0] * n)
        self.assertNotEqual(self.sums(numbers, m, n, told)[0], 0)
        self.assertIs(shows_never(numbers, m, n, many, told), True)
        self.assertIs(shows_never(numbers, m, n, many, list(told)), True)
        self.assertIs(shows_never(tuple(numbers), m, n, many, told), True)

    def sums(self, numbers, m, n, paper):
        values, weights = fractions_of(numbers), fractions_of(paper)
        return [
            sum(weight * values[m + 1 + k - j] for k, weight in enumerate(weights) if m + 1 + k - j >= 0)
            for j in range(n + 1)
        ]

    def test_examples(self):
        self.assertIsNone(never_paper(row(1, 1, 1), 0, 1, 3))
        self.check_never(row(1, 1, 2), 0, 1, 3)
        self.check_never(row(0, 1), 0, 1, 2)
        self.check_never(row(0, 1), 0, 5, 2)
        self.check_never(row(1, 1), 0, 0, 2)

    def test_at_no_places_there_is_none(self):
        for numbers in some_rows("no places", 30, 8, 2):
            for m in (0, 1, 7, 23):
                for n in (0, 1, 7, 23):
                    for many in range(min(m + 1, len(numbers)) + 1):
                        self.assertIsNone(never_paper(numbers, m, n, many))
                        for thing in ((), [], ((1, 1),), None):
                            self.assertIs(shows_never(numbers, m, n, many, thing), False)

    def test_just_where_a_quotient_agrees_no_further(self):
        for numbers in some_rows("no further", 40, 10, 2):
            for m, n in heights_within(len(numbers)):
                places = agreement_by_hand(numbers, furthest(numbers, m, n))
                self.assertIsNone(never_paper(numbers, m, n, places))
                if places < len(numbers):
                    self.check_never(numbers, m, n, places + 1)
                    self.check_never(numbers, m, n, len(numbers))

    def test_all_places_and_heights(self):
        for numbers in some_rows("never", 50, 6, 2):
            for m in range(7):
                for n in range(7):
                    for many in range(len(numbers) + 1):
                        self.check_never(numbers, m, n, many)

    def test_all_small_rows(self):
        for code in range(3**5):
            numbers = row(*[code // 3**place % 3 - 1 for place in range(5)])
            for m in range(4):
                for n in range(6):
                    self.check_never(numbers, m, n, 5)

    def test_heights_above_the_rows_length(self):
        for numbers in (row(0, 0, 1), row(1), row(0), row(0, 0, 0, 0, 2, 3), row(1, 2, 3)):
            for m in (0, 1, 2, 23):
                for n in (0, 1, 22, 23):
                    self.check_never(numbers, m, n, len(numbers))

    def test_of_forty_figures_and_24_places(self):
        numbers = row(*some_fractions("far", 24, 40)[::-1])
        for m, n in ((3, 4), (10, 2), (0, 5), (22, 0)):
            self.check_never(numbers, m, n, 24)

    def test_wrong_papers_are_not_shown(self):
        numbers = row(1, 1, 2, 5, 0, 3)
        paper = never_paper(numbers, 1, 2, 6)
        self.assertIs(shows_never(numbers, 1, 2, 6, paper), True)
        last = paper[-1]
        for thing in (
            None, True, False, 0, 1, "", "paper", (), [], ((),), paper + ((0, 1),), ((0, 1),) + paper, paper[:-1],
            paper[1:], ((0, 1),) * 4, [(0, 1)] * 4, (paper,), [list(paper)], paper[::-1], paper[:-1] + (list(last),),
            [list(number) for number in paper], paper[:-1] + (None,), paper[:-1] + (True,), paper[:-1] + (1,),
            paper[:-1] + ("1",), (None,) * 4, (True,) * 4, "abcd", paper[:-1] + ((2 * last[0], 2 * last[1]),),
            tuple((3 * number[0], 3 * number[1]) for number in paper), paper[:-1] + ((-last[0], -last[1]),),
            paper[:-1] + ((last[0], last[1], 1),), paper[:-1] + ((last[0],),), ((1, 1),) * 4, ((0, 1),) * 3 + ((1, 1),),
            ((1, 0),) * 4, ((0, 2),) * 4, (0, 0, 0, 1), (paper, None), str(paper),
        ):
            self.assertIs(shows_never(numbers, 1, 2, 6, thing), False, thing)

    def test_true_in_the_place_of_1_is_not_shown(self):
        for numbers in (row(1, 1), row(1, 5)):
            self.assertIs(shows_never(numbers, 0, 0, 2, ((1, 1),)), True)
            self.assertIs(shows_never(numbers, 0, 0, 2, [(1, 1)]), True)
            for thing in (((True, 1),), ((1, True),), [(True, True)], ([1, 1],), [[1, 1]], ((2, 2),), ((-1, -1),)):
                self.assertIs(shows_never(numbers, 0, 0, 2, thing), False, thing)

    def test_papers_are_shown_just_where_they_hold(self):
        chance = random.Random("papers")
        for numbers in some_rows("papers", 60, 5, 1):
            for m in range(4):
                for n in range(4):
                    for many in range(m + 2, len(numbers) + 1):
                        for again in range(4):
                            values = [chance.choice((-1, 0, 0, 1)) for place in range(m + 1, many)]
                            paper = polynomial(*values)
                            sums = self.sums(numbers, m, n, paper)
                            awaited = sums[0] != 0 and not any(sums[1:])
                            self.assertIs(shows_never(numbers, m, n, many, paper), awaited)

    def test_a_paper_is_of_one_count_of_places(self):
        numbers = row(1, 1, 2, 5, 0, 3)
        paper = never_paper(numbers, 1, 2, 5)
        self.assertIs(shows_never(numbers, 1, 2, 5, paper), True)
        self.assertIs(shows_never(numbers, 1, 2, 4, paper), False)
        self.assertIs(shows_never(numbers, 1, 2, 6, paper), False)
        self.assertIs(shows_never(numbers, 1, 2, 6, paper + ((0, 1),)), True)


class HandedIn(unittest.TestCase):
    """Lists stand for tuples, nothing handed in is changed, and tuples are told."""

    def test_rows(self):
        for numbers in some_rows("handed", 30, 8, 2):
            for m, n in heights_within(len(numbers)):
                told = told_without_change(self, furthest, numbers, m, n)
                again = told_without_change(self, furthest, tuple(numbers), m, n)
                self.assertEqual(repr(again), repr(told))
                for form in (numbers, tuple(numbers)):
                    for thing in (told, as_lists(told)):
                        shown = told_without_change(self, shows_furthest, form, m, n, thing)
                        self.assertIs(shown, thing == told)
                paper = told_without_change(self, never_paper, numbers, m, n, len(numbers))
                again = told_without_change(self, never_paper, tuple(numbers), m, n, len(numbers))
                self.assertEqual(repr(again), repr(paper))
                if paper:
                    told_without_change(self, shows_never, numbers, m, n, len(numbers), list(paper))

    def test_quotients(self):
        for one in some_quotients("handed", 20, 4, 4, 2):
            for form in (one, as_lists(one)):
                self.assertEqual(told_without_change(self, spare, form, 6, 7), spare(one, 6, 7))

    def test_a_list_changed_later_changes_nothing_told(self):
        numbers = row(1, 2, 4, 9)
        told = (furthest(numbers, 3, 0), furthest(numbers, 1, 1), never_paper(numbers, 0, 1, 4))
        kept = repr(told)
        numbers[0] = (9, 1)
        numbers.pop()
        self.assertEqual(repr(told), kept)

    def test_told_things_may_be_handed_in_again(self):
        one = furthest(row(*some_fractions("told", 12, 20)[::-1]), 6, 5)
        numbers = row_of(one, 16)
        self.assertEqual(agrees(numbers, one), 16)
        self.assertEqual([fraction(number) for number in numbers], row_by_hand(one, 16))
        self.assertEqual(furthest(numbers, 7, 6), one)
        self.assertIs(shows_furthest(numbers, 8, 7, one), True)
        self.assertIs(is_quotient(one), True)

    def test_arguments_bear_their_names(self):
        numbers = row(1, 1, 2)
        one = quotient([1], [1, -1])
        self.assertEqual(furthest(row=numbers, m=0, n=1), one)
        self.assertEqual(spare(one=one, m=2, n=2), 1)
        self.assertIs(shows_furthest(row=numbers, m=0, n=1, thing=one), True)
        paper = never_paper(row=numbers, m=0, n=1, many=3)
        self.assertIs(shows_never(row=numbers, m=0, n=1, many=3, paper=paper), True)


if __name__ == "__main__":
    unittest.main()

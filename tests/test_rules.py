import unittest
from fractions import Fraction

from farquotient.equations import furthest
from farquotient.errors import TooShort
from farquotient.quotients import heights, row_of
from farquotient.rules import found_rule, gone_on, least_rule, obeys, rule_of
from tests.helper import (
    agreement_by_hand,
    as_lists,
    check_refusal,
    fraction,
    fractions_of,
    is_plain_number,
    pair,
    polynomial,
    quotient,
    row_by_hand,
    some_fractions,
    some_quotients,
    some_rows,
    told_without_change,
)

NOUGHT = ((), ((1, 1),))
HALF = Fraction(1, 2)


def row(*values):
    return list(polynomial(*values))


def rule(weights, begin):
    return (polynomial(*weights), begin)


def weighed_by_hand(values, weights, place):
    return sum((fraction(w) * values[place - 1 - j] for j, w in enumerate(weights) if place - 1 - j >= 0), Fraction(0))


def obeys_by_hand(numbers, weights, begin):
    values = fractions_of(numbers)
    return all(values[place] == weighed_by_hand(values, weights, place) for place in range(begin, len(values)))


def gone_on_by_hand(numbers, weights, many):
    values = fractions_of(numbers)[:many]
    while len(values) < many:
        values.append(weighed_by_hand(values, weights, len(values)))
    return row(*values)


def some_rules(seed, many, most, figures):
    """Weights of up to so many numbers, none and noughts among them."""
    rows = some_rows(seed, many, most, figures)
    return [(), polynomial(0), polynomial(1)] + [tuple(numbers) for numbers in rows]


class Obeys(unittest.TestCase):
    def test_examples(self):
        fibonacci = row(0, 1, 1, 2, 3, 5, 8)
        self.assertIs(obeys(fibonacci, rule([1, 1], 2)), True)
        self.assertIs(obeys(fibonacci, rule([1, 1], 1)), False)
        # Place 0 is nought there, and so is what the rule tells of it.
        self.assertIs(obeys(row(0, 0, 0), rule([1, 1], 0)), True)
        self.assertIs(obeys(row(1, HALF, Fraction(1, 4)), rule([HALF], 1)), True)
        self.assertIs(obeys(row(1, HALF, Fraction(1, 4)), rule([HALF], 0)), False)
        self.assertIs(obeys(row(1, 2, 3), rule([2, -1], 1)), True)
        self.assertIs(obeys(row(1, 2, 3), rule([2, -1, 5], 1)), True)
        self.assertIs(obeys(row(1, 2, 3, 4), rule([2, -1, 5], 1)), False)

    def test_begin_at_and_beyond_the_end(self):
        for begin in (3, 4, 23, 100):
            for weights in ([], [1], [HALF, 0, 3]):
                self.assertIs(obeys(row(1, 5, -7), rule(weights, begin)), True)
        self.assertIs(obeys(row(1, 5, -7), rule([1], 2)), False)
        self.assertIs(obeys(row(1, 5, -7), rule([0, -7], 2)), True)

    def test_no_weights(self):
        self.assertIs(obeys(row(0, 0, 0), rule([], 0)), True)
        self.assertIs(obeys(row(0, 0, 1), rule([], 0)), False)
        self.assertIs(obeys(row(1, 3, 0, 0), rule([], 2)), True)
        self.assertIs(obeys(row(1, 3, 0, 0), rule([], 1)), False)

    def test_rows_that_fail_at_one_place(self):
        for weights in some_rules("fail", 12, 4, 2):
            numbers = gone_on_by_hand(row(1, -2, HALF), weights, 9)
            self.assertIs(obeys(numbers, (weights, 3)), True)
            for place in range(3, 9):
                top, below = numbers[place]
                changed = numbers[:place] + [(top + below, below)] + numbers[place + 1 :]
                self.assertIs(obeys(changed, (weights, 3)), False)
                self.assertIs(obeys(changed, (weights, place)), False)
                self.assertIs(obeys(changed[: place + 1], (weights, place + 1)), True)

    def test_against_fractions(self):
        rows = some_rows("obeys", 30, 8, 2)
        for weights in some_rules("weights", 15, 4, 2):
            for numbers in rows + [gone_on_by_hand(numbers, weights, 8) for numbers in rows]:
                for begin in range(10):
                    told = obeys(numbers, (weights, begin))
                    self.assertIs(told, obeys_by_hand(numbers, weights, begin), (numbers, weights, begin))


class RuleOf(unittest.TestCase):
    def test_examples(self):
        self.assertEqual(rule_of(NOUGHT), ((), 0))
        self.assertEqual(rule_of(quotient([7], [1])), ((), 1))
        self.assertEqual(rule_of(quotient([0, 1], [1, -1, -1])), rule([1, 1], 2))
        self.assertEqual(rule_of(quotient([1], [1, -HALF])), rule([HALF], 1))
        self.assertEqual(rule_of(quotient([1, 2, 3], [1, 0, Fraction(2, 3)])), rule([0, Fraction(-2, 3)], 3))

    def test_kinds(self):
        for one in some_quotients("kinds", 30, 5, 5, 9):
            told = rule_of(one)
            self.assertIs(type(told), tuple)
            weights, begin = told
            self.assertIs(type(weights), tuple)
            self.assertIs(type(begin), int)
            self.assertTrue(all(is_plain_number(weight) for weight in weights))
            self.assertEqual([fraction(weight) for weight in weights], [-each for each in fractions_of(one[1])[1:]])
            self.assertEqual(begin, len(one[0]))

    def test_rows_obey_it_from_begin_on_and_not_ahead(self):
        for one in some_quotients("rule", 40, 4, 4, 3):
            weights, begin = rule_of(one)
            for many in (begin, begin + 1, begin + 9):
                numbers = row_of(one, many)
                self.assertIs(obeys(numbers, (weights, begin)), True)
                if begin > 0:
                    self.assertIs(obeys(numbers, (weights, begin - 1)), False)


class GoneOn(unittest.TestCase):
    def test_examples(self):
        self.assertEqual(gone_on(row(0, 1), rule([1, 1], 2), 8), row(0, 1, 1, 2, 3, 5, 8, 13))
        self.assertEqual(gone_on(row(1), rule([HALF], 1), 4), row(1, HALF, Fraction(1, 4), Fraction(1, 8)))
        self.assertEqual(gone_on(row(1, 5), rule([], 2), 4), row(1, 5, 0, 0))
        self.assertEqual(gone_on(row(1, 5), rule([0, 0, 1], 0), 6), row(1, 5, 0, 1, 5, 0))

    def test_cut_and_none(self):
        numbers = row(3, HALF, -1, 0, 8)
        for begin in (0, 2, 5, 99):
            for many in range(6):
                self.assertEqual(gone_on(numbers, rule([7, -HALF], begin), many), numbers[:many])
        self.assertEqual(repr(gone_on(numbers, rule([1], 0), 0)), "[]")

    def test_wherever_begin_is(self):
        for begin in (0, 1, 2, 3, 9, 50):
            self.assertEqual(gone_on(row(1, 2), rule([1, 1], begin), 5), row(1, 2, 3, 5, 8))

    def test_against_fractions(self):
        for weights in some_rules("go on", 24, 5, 2):
            for numbers in some_rows("gone on", 16, 8, 2):
                for many in (1, 5, 12, 20):
                    told = gone_on(numbers, (weights, 2), many)
                    self.assertIs(type(told), list)
                    self.assertTrue(all(is_plain_number(number) for number in told))
                    self.assertEqual(told, gone_on_by_hand(numbers, weights, many))

    def test_a_hundred_places(self):
        weights = polynomial(*[value or 1 for value in some_fractions("hundred", 4, 3)])
        self.assertEqual(gone_on(row(1, HALF, 3), (weights, 0), 100), gone_on_by_hand(row(1, HALF, 3), weights, 100))
        self.assertEqual(gone_on(row(1), rule([2], 0), 100)[99], (2**99, 1))

    def test_forty_figures(self):
        numbers = [pair(value or 1) for value in some_fractions("forty", 36, 40)]
        told = gone_on(numbers[:24], (tuple(numbers[24:]), 5), 40)
        self.assertEqual(told[:24], numbers[:24])
        self.assertEqual(told[24:28], gone_on_by_hand(numbers[:24], numbers[24:], 28)[24:])
        self.assertIs(obeys(told, (tuple(numbers[24:]), 24)), True)


class FoundRule(unittest.TestCase):
    def test_examples(self):
        self.assertEqual(found_rule(row(0, 1, 1, 2, 3, 5), 2, 2), rule([1, 1], 2))
        self.assertEqual(found_rule(row(0, 1, 1, 2, 3, 5), 1, 2), rule([1, 1], 2))
        self.assertIsNone(found_rule(row(0, 1, 1, 2, 3, 6), 1, 2))
        self.assertIsNone(found_rule(row(0, 1, 1, 2, 3, 5), 1, 1))
        self.assertEqual(found_rule(row(0, 0, 0), 1, 1), ((), 0))
        self.assertIsNone(found_rule(row(0, 0, 3), 1, 1))
        self.assertEqual(found_rule(row(7), 0, 0), ((), 1))
        self.assertEqual(found_rule(row(1, 2, 3), 2, 0), ((), 3))

    def test_at_all_heights(self):
        for numbers in some_rows("found", 60, 9, 2):
            for m in range(len(numbers)):
                for n in range(len(numbers) - m):
                    one = furthest(numbers, m, n)
                    awaited = rule_of(one) if agreement_by_hand(numbers, one) == len(numbers) else None
                    self.assertEqual(found_rule(numbers, m, n), awaited)
                    if m + n + 1 == len(numbers) and awaited is not None:
                        self.assertIs(obeys(numbers, awaited), True)

    def test_too_short(self):
        numbers = row(*some_fractions("short", 12, 2))
        for m, n in ((0, 1), (1, 0), (5, 6), (11, 0), (0, 11)):
            found_rule(numbers[: m + n + 1], m, n)
            check_refusal(self, TooShort, found_rule, numbers[: m + n], m, n)
            check_refusal(self, TooShort, found_rule, [(0, 1)] * (m + n), m, n)
        check_refusal(self, TooShort, found_rule, row(1), 23, 23)


class LeastRule(unittest.TestCase):
    def least_by_hand(self, numbers):
        places = len(numbers)
        for n in range(places - 1):
            for m in range(places - 1 - n):
                found = found_rule(numbers, m, n)
                if found is not None:
                    return found
        return None

    def test_examples(self):
        self.assertEqual(least_rule(row(0, 1, 1, 2, 3)), rule([1, 1], 2))
        self.assertIsNone(least_rule(row(0, 1, 1, 2)))
        self.assertEqual(least_rule(row(1, 2, 4)), rule([2], 1))
        self.assertIsNone(least_rule(row(1, 2)))
        self.assertEqual(least_rule(row(1, 0)), ((), 1))
        self.assertIsNone(least_rule(row(1, 2, 5)))
        self.assertEqual(least_rule(row(5, 3, 2, 4, 8, 16)), rule([2], 3))

    def test_one_place(self):
        for value in (0, 1, HALF):
            self.assertIsNone(least_rule(row(value)))

    def test_noughts(self):
        for places in (2, 3, 24):
            self.assertEqual(least_rule([(0, 1)] * places), ((), 0))
            self.assertIsNone(least_rule([(0, 1)] * places + [(1, 1)]))
            self.assertEqual(least_rule([(0, 1)] * places + [(1, 1), (0, 1)]), ((), places + 1))

    def test_the_least_n_goes_ahead_of_the_least_m(self):
        numbers = row(1, 2, 4, 8, 0, 0)
        self.assertEqual(least_rule(numbers), ((), 4))
        numbers = row(*row_by_hand(quotient([1], [1, -1, 2, 1]), 8))
        self.assertEqual(least_rule(numbers), rule([1, -2, -1], 1))
        self.assertEqual(least_rule(numbers[:5]), rule([1, -2, -1], 1))
        self.assertIsNone(least_rule(numbers[:4]))

    def test_against_all_heights(self):
        for numbers in some_rows("least", 120, 9, 2):
            self.assertEqual(least_rule(numbers), self.least_by_hand(numbers), numbers)

    def test_all_small_rows(self):
        for code in range(3**6):
            numbers = row(*[code // 3**place % 3 - 1 for place in range(6)])
            self.assertEqual(least_rule(numbers), self.least_by_hand(numbers), numbers)

    def test_rows_of_quotients(self):
        for one in some_quotients("least", 24, 4, 4, 3):
            a, b = heights(one)
            for places in (a + b + 2, a + b + 3, 20):
                if places > 1:
                    self.assertEqual(least_rule(row_of(one, places)), rule_of(one))
            told = least_rule(row_of(one, a + b + 1)) if one != NOUGHT else None
            self.assertTrue(told is None or told != rule_of(one))

    def test_24_places_of_forty_figures(self):
        numbers = [pair(value or 1) for value in some_fractions("forty", 24, 40)]
        self.assertIsNone(least_rule(numbers))
        one = (tuple(numbers[:6]), ((1, 1),) + tuple(numbers[6:12]))
        self.assertEqual(least_rule(row_of(one, 24)), rule_of(one))


class FoundAgain(unittest.TestCase):
    """Rows of quotients are found again, and go on to every further place."""

    def test_by_furthest_of_any_heights_from_theirs_on(self):
        for one in some_quotients("again", 30, 3, 3, 3):
            if one == NOUGHT:
                continue
            a, b = heights(one)
            for places in range(a + b + 1, 12):
                numbers = row_of(one, places)
                for m in range(a, places):
                    for n in range(b, places - m):
                        self.assertEqual(furthest(numbers, m, n), one)
                        self.assertEqual(found_rule(numbers, m, n), rule_of(one))

    def test_gone_on_to_every_place(self):
        for one in some_quotients("on", 30, 5, 5, 3):
            a, b = heights(one)
            awaited = row_of(one, 60)
            self.assertEqual(fractions_of(awaited)[:20], row_by_hand(one, 20))
            for places in range(a + b + 1, a + b + 4):
                self.assertEqual(gone_on(awaited[:places], rule_of(one), 60), awaited)

    def test_not_from_fewer_places(self):
        one = quotient([1, 2], [1, -1, 3])
        self.assertEqual(furthest(row_of(one, 4), 1, 2), one)
        check_refusal(self, TooShort, furthest, row_of(one, 3), 1, 2)


class HandedIn(unittest.TestCase):
    def test_lists_and_tuples(self):
        for one in some_quotients("handed", 16, 3, 3, 2):
            numbers, many = row_of(one, 9), 14
            told = told_without_change(self, rule_of, one)
            self.assertEqual(repr(told_without_change(self, rule_of, as_lists(one))), repr(told))
            weights, begin = told
            for given in (told, [weights, begin], [list(weights), begin], (list(weights), begin)):
                for handed in (numbers, tuple(numbers)):
                    self.assertIs(told_without_change(self, obeys, handed, given), True)
                    on = told_without_change(self, gone_on, handed, given, many)
                    self.assertEqual(repr(on), repr(row_of(one, many)))
            for m, n in ((0, 0), (3, 3), (4, 4)):
                found = told_without_change(self, found_rule, numbers, m, n)
                self.assertEqual(repr(told_without_change(self, found_rule, tuple(numbers), m, n)), repr(found))
            least = told_without_change(self, least_rule, numbers)
            self.assertEqual(repr(told_without_change(self, least_rule, tuple(numbers))), repr(least))

    def test_told_lists_are_new(self):
        numbers, given = row(1, 2), rule([1, 1], 2)
        for many in (0, 1, 2, 5):
            kept = repr(gone_on(numbers, given, many))
            first, second = gone_on(numbers, given, many), gone_on(numbers, given, many)
            self.assertIsNot(first, second)
            self.assertIsNot(first, numbers)
            first.append(None)
            self.assertEqual(repr(second), kept)
            self.assertEqual(repr(gone_on(numbers, given, many)), kept)
        self.assertEqual(numbers, row(1, 2))

    def test_what_is_changed_later_changes_nothing_told(self):
        one, numbers = as_lists(quotient([1, 2], [1, -1, 3])), row(1, 3, 0, -9, -9, 18)
        told = (rule_of(one), gone_on(numbers, rule([1], 0), 9), found_rule(numbers, 1, 2), least_rule(numbers))
        kept = repr(told)
        one[1][1] = (9, 1)
        one[0].append((9, 1))
        numbers[1] = (8, 1)
        self.assertEqual(repr(told), kept)

    def test_told_things_may_be_handed_in_again(self):
        numbers = row(*some_fractions("told", 12, 12)[::-1])
        given = rule_of(furthest(numbers, 6, 5))
        on = gone_on(numbers, given, 20)
        self.assertIs(obeys(on, given), True)
        self.assertEqual(least_rule(on), given)
        self.assertEqual(gone_on(on, given, 22)[:20], on)

    def test_arguments_bear_their_names(self):
        self.assertIs(obeys(row=row(1, 1), rule=rule([1], 1)), True)
        self.assertEqual(rule_of(one=NOUGHT), ((), 0))
        self.assertEqual(gone_on(row=row(1), rule=rule([1], 1), many=2), row(1, 1))
        self.assertEqual(found_rule(row=row(1), m=0, n=0), ((), 1))
        self.assertIsNone(least_rule(row=row(1)))


if __name__ == "__main__":
    unittest.main()

import unittest
from fractions import Fraction

from farquotient.blocks import block_of
from farquotient.equations import furthest
from farquotient.errors import BadRow, FarError, NoQuotient, Pole, TooShort
from farquotient.ladders import far_sum
from farquotient.primes import brought, furthest_by
from farquotient.quotients import agrees, quotient_of, row_of, value
from farquotient.roots import poles
from farquotient.rules import least_rule
from farquotient.sheet import run
from tests.helper import fraction, pair, polynomial, quotient, some_fractions, some_quotients, some_rows

FORTY = "1234567890" * 4
ROW = "row a 0 1 1 2 3 5"
QUOTIENT = "quotient q 0 1 : 1 -1 -1"
PRIMES = [p for p in range(2, 998) if all(p % d for d in range(2, p))]


def written(numbers):
    """The words of a list of numbers."""
    return " ".join(str(fraction(number)) for number in numbers)


def poly_written(one):
    return written(one) if one else "0"


def quotient_written(one):
    return f"{poly_written(one[0])} : {poly_written(one[1])}"


def told_or(word, kind, deed, *things):
    """What a deed tells, or the word where it is refused with an error of a kind."""
    try:
        return deed(*things)
    except kind:
        return word


class Answers(unittest.TestCase):
    def check(self, rows, *answers):
        told = run("\n".join(rows))
        self.assertIs(type(told), list)
        self.assertTrue(all(type(answer) is str for answer in told))
        self.assertEqual(told, list(answers))

    def test_nothing(self):
        for text in ("", "\n", "\n\n\n", ROW, ROW + "\n", "\n" + ROW + "\n\n" + QUOTIENT, QUOTIENT):
            self.assertEqual(repr(run(text)), "[]")

    def test_far(self):
        self.check([ROW, "far a 1 2"], "0 1 : 1 -1 -1")
        self.check(["row a 1 1 1/2", "far a 1 1", "far a 2 0", "far a 0 2"], "1 1/2 : 1 -1/2", "1 1 1/2 : 1", "1 : 1 -1 1/2")
        self.check(["row a 0 0 3", "far a 1 1", "far a 0 0"], "0 : 1", "0 : 1")
        self.check(["row a 1 2", "far a 0 1", "far a 1 1", "far a 2 0", "far a 23 23"], "1 : 1 -2", "short", "short", "short")

    def test_agrees(self):
        self.check([ROW, QUOTIENT, "agrees a q"], "6")
        self.check(["row a 0 1 1 2 4", QUOTIENT, "agrees a q"], "4")
        self.check(["row a 1", QUOTIENT, "agrees a q"], "0")
        self.check(["row a 0 0 0", "quotient z : 1", "agrees a z"], "3")

    def test_block(self):
        self.check([ROW, "block a 1 2", "block a 3 2", "block a 0 0"], "1 2 -", "1 2 -", "-")
        self.check(["row a 1 0 0 5", "block a 1 2", "block a 3 0", "block a 3 1"], "0 0 2", "3 0 -", "short")
        self.check(["row a 0 0", "block a 0 1", "block a 1 1"], "-", "short")

    def test_rule(self):
        self.check([ROW, "rule a"], "1 1 : 2")
        self.check(["row a 0 0 0", "rule a"], ": 0")
        self.check(["row a 7 0", "rule a"], ": 1")
        self.check(["row a 7", "rule a"], "-")
        self.check(["row a 1 2 5", "rule a"], "-")
        self.check(["row a 3 -3/2 3/4", "rule a"], "-1/2 : 1")

    def test_value(self):
        self.check([QUOTIENT, "value q 1/3", "value q 0", "value q -1"], "3/5", "0", "-1")
        self.check(["quotient q 1 : 1 -2", "value q 1/2", "value q 1", "value q -1/2"], "pole", "-1", "1/2")
        self.check(["quotient q : 1", "value q 1/2"], "0")

    def test_places(self):
        self.check([QUOTIENT, "places q 0", "places q 1", "places q 6"], "-", "0", "0 1 1 2 3 5")
        self.check(["quotient q -1 : 1 1/2", "places q 4"], "-1 1/2 -1/4 1/8")
        self.check(["quotient q : 1", "places q 3", "places q 0"], "0 0 0", "-")
        self.assertEqual(len(run(QUOTIENT + "\nplaces q 40")[0].split(" ")), 40)

    def test_sum(self):
        self.check([ROW, "sum a 1/3", "sum a 0"], "3/5", "0")
        self.check(["row a 1 1 1", "sum a 1/2", "sum a -1", "sum a 1"], "2", "1/2", "3")
        self.check(["row a 0 0", "sum a 5"], "0")

    def test_poles(self):
        self.check([QUOTIENT, "poles q"], "2")
        self.check(["quotient q 1 : 1 0 1", "poles q", "quotient q : 1", "poles q", "quotient q 1 2 : 3", "poles q"], "0", "0", "0")
        self.check(["quotient q 1 : 1 -2 1", "poles q", "quotient q 1 -1 : 1 -2 1", "poles q"], "1", "1")
        # A root of both top and below is none of the quotient.
        self.check(["quotient q 1 -1 : 1 -1", "poles q"], "0")

    def test_prime(self):
        self.check([ROW, "prime 7 a 1 2", "prime 2 a 1 2", "prime 7 a 3 3"], "0 1 : 1 6 6", "0 1 : 1 1 1", "short")
        self.check(["row a 1 1/7", "prime 7 a 0 0", "prime 5 a 0 1", "prime 7 a 9 9", "prime 5 a 9 9"], "-", "1 : 1 2", "-", "short")
        self.check(["row a 2 4", "prime 2 a 1 0", "prime 3 a 1 0"], "0 : 1", "2 1 : 1")
        self.check(["row a 996 -1", "prime 997 a 1 0"], "996 996 : 1")

    def test_names_told_anew(self):
        self.check([ROW, "row a 1 2", "far a 0 1"], "1 : 1 -2")
        self.check([ROW, "far a 0 0", "row a 5", "far a 0 0"], "0 : 1", "5 : 1")
        self.check([QUOTIENT, "places q 2", "quotient q 1 : 1", "places q 2"], "0 1", "1 0")
        self.check(["row x 1 2", "quotient x 3 : 1", "places x 1", "row x 4", "far x 0 0"], "3", "4 : 1")
        self.check(["row row 1", "quotient far 1 : 1", "far row 0 0", "agrees row far", "value far 5"], "1 : 1", "1", "1")
        self.check(["row abcdefgh 1", "far abcdefgh 0 0", "row z 2", "far z 0 0"], "1 : 1", "2 : 1")

    def test_quotients_are_brought_to_their_form(self):
        self.check(["quotient q 2 4 : 4 0 0", "places q 3", "value q 1"], "1/2 1 0", "3/2")
        self.check(["quotient q 0 0 : 0 0 5", "places q 2"], "0 0")
        self.check(["quotient q : 0 1", "places q 2"], "0 0")
        self.check(["quotient q 0 1 0 : 0 2 0", "places q 2"], "1/2 0")
        self.check(["quotient q -1 0 1 : 1 1", "places q 3", "poles q"], "-1 1 0", "0")
        nine = "1 2 3 4 5 6 7 8 9"
        self.check([f"quotient q {nine} : {nine}", "places q 3", "poles q"], "1 0 0", "0")

    def test_answers_come_in_order_and_empty_rows_are_passed_over(self):
        rows = ["", ROW, "", "", "rule a", "", QUOTIENT, "poles q", "rule a", "", ""]
        self.check(rows, "1 1 : 2", "2", "1 1 : 2")

    def test_great_answers(self):
        # Numbers of more than some four thousand figures can't be written in one go by Python itself.
        low = 10**39 + 7
        rows = [f"quotient q 1 : 1 1/{low} 1/{low + 10} -1/{low + 36}", "places q 40"]
        told = run("\n".join(rows))[0].split(" ")
        one = quotient([1], [1, Fraction(1, low), Fraction(1, low + 10), Fraction(-1, low + 36)])
        self.assertGreater(len(told[39]), 4400)
        for number, word in zip(row_of(one, 40), told):
            top, stroke, below = word.partition("/")
            self.assertEqual((self.whole(top), self.whole(below or "1")), number)

    def whole(self, word):
        """The whole number of figures, read piece by piece; none of the pieces has a sign or a blank in it."""
        sign, figures, found = (-1, word[1:], 0) if word[0] == "-" else (1, word, 0)
        self.assertTrue(figures.isascii() and figures.isdecimal() and (figures == "0" or figures[0] != "0"))
        for at in range(0, len(figures), 1000):
            piece = figures[at : at + 1000]
            found = found * 10 ** len(piece) + int(piece)
        return sign * found

    def test_figures_with_noughts_in_them(self):
        for power in (20, 38, 39):
            great = 10**power
            self.check([f"row a 1 {great} {-great}", "sum a 1", "far a 2 0"], *self.sums(great))
        places = run(f"quotient q 1 : 1 {-(10**39)}\nplaces q 9")[0].split(" ")
        self.assertEqual(places, ["1" + "0" * (39 * k) for k in range(9)])
        places = run(f"quotient q -1 : 1 {-(10**20)}\nplaces q 9")[0].split(" ")
        self.assertEqual(places, ["-1" + "0" * (20 * k) for k in range(9)])

    def sums(self, great):
        numbers = list(polynomial(1, great, -great))
        return str(fraction(far_sum(numbers, (1, 1)))), f"1 {great} {-great} : 1"


class AsTheFunctions(unittest.TestCase):
    """A sheet's answers are the functions' own, written."""

    def test_rows(self):
        for numbers in some_rows("sheet", 40, 8, 3):
            far, rows, awaited = written(numbers), [], []
            rows.append(f"row a {far}")
            for m, n in ((0, 0), (1, 1), (2, 2), (0, 4), (5, 0), (7, 7)):
                rows += [f"far a {m} {n}", f"block a {m} {n}"]
                one, block = (told_or("short", TooShort, deed, numbers, m, n) for deed in (furthest, block_of))
                awaited.append(one if one == "short" else quotient_written(one))
                if block is None:
                    awaited.append("-")
                else:
                    awaited.append(block if block == "short" else " ".join("-" if k is None else str(k) for k in block))
                for p in (2, 3, 7, 997):
                    rows.append(f"prime {p} a {m} {n}")
                    row = brought(p, numbers)
                    one = "-" if row is None else told_or("short", TooShort, furthest_by, p, row, m, n)
                    if type(one) is tuple:
                        one = " : ".join(" ".join(str(each) for each in part) or "0" for part in one)
                    awaited.append(one)
            rows.append("rule a")
            rule = least_rule(numbers)
            awaited.append("-" if rule is None else " ".join([written(rule[0])] * bool(rule[0]) + [":", str(rule[1])]))
            for x in (0, 1, Fraction(-1, 2), Fraction(22, 7)):
                rows.append(f"sum a {x}")
                awaited.append(str(fraction(far_sum(numbers, pair(x)))))
            self.assertEqual(run("\n".join(rows)), awaited)

    def test_quotients(self):
        for one in some_quotients("sheet", 40, 4, 4, 3):
            numbers = row_of(one, 6) + [(5, 7)]
            rows = [f"quotient q {written(one[0])} : {written(one[1])}".replace("  ", " "), f"row a {written(numbers)}"]
            rows += ["agrees a q", "poles q"]
            awaited = [str(agrees(numbers, one)), str(len(poles(one, (1, 1))))]
            for x in (0, 1, Fraction(-1, 2), Fraction(22, 7)):
                rows.append(f"value q {x}")
                told = told_or("pole", Pole, value, one, pair(x))
                awaited.append(told if told == "pole" else str(fraction(told)))
            for many in (0, 1, 5, 40):
                rows.append(f"places q {many}")
                awaited.append(written(row_of(one, many)) or "-")
            self.assertEqual(run("\n".join(rows)), awaited)

    def test_24_numbers_and_heights_23(self):
        numbers = [pair(value) for value in some_fractions("24", 24, 1)]
        rows = [f"row a {written(numbers)}", "far a 23 0", "far a 0 23", "far a 12 11", "far a 12 12", "rule a", "sum a 1/2"]
        far = [quotient_written(furthest(numbers, m, n)) for m, n in ((23, 0), (0, 23), (12, 11))]
        self.assertEqual(run("\n".join(rows)), far + ["short", "-", str(fraction(far_sum(numbers, (1, 2))))])


class Refusals(unittest.TestCase):
    def check_bad(self, row, *rows):
        """Checks that a sheet is refused with just this row's number."""
        with self.assertRaises(ValueError) as caught:
            run("\n".join(rows))
        self.assertIs(type(caught.exception), BadRow)
        self.assertIsInstance(caught.exception, FarError)
        self.assertEqual(repr(caught.exception.row), repr(row), rows)

    def check_good(self, *rows):
        self.assertIs(type(run("\n".join(rows))), list)

    def test_rows_that_are_no_rows(self):
        for row in ("x", "rows a 1", "Row a 1", "ROW a 1", "row", "quotient", "far", "rule", "1", ":", "-", "#", "row\ta 1",
                    "farther a 0 0", "a", "row:a 1", "fa", "", "row a 1\r"):
            if row:
                self.check_bad(2, ROW, QUOTIENT, row)

    def test_blanks(self):
        self.check_bad(0, " ")
        self.check_bad(1, ROW, "  ")
        self.check_bad(1, ROW, "   ", "far a 0 0")
        for row in (" row a 1", "row a 1 ", "row  a 1", "row a  1", "row a 1  2", "row a ", "row ", " row", "row a 1\t2",
                    "row a 1 \t", "quotient q  : 1", "quotient q 1 :  1", "quotient q 1 : 1 ", "quotient q 1: 1",
                    "quotient q 1 :1", "quotient q :1", "far a  0 0", "far  a 0 0", "far a 0 0 ", "rule a ", " rule a"):
            self.check_bad(2, ROW, QUOTIENT, row)

    def test_numbers_as_they_may_be_written(self):
        for number in ("0", "3", "-3", "1/2", "-1/2", "10", "100/7", "-22/7", FORTY, "-" + FORTY, "1/" + FORTY, f"7/{FORTY}",
                       f"{FORTY}/7", f"-{FORTY}/{10**39 + 1}", "9" * 40):
            self.check_good(f"row a {number}", f"quotient q {number} : 1 {number}", f"sum a {number}")
            self.assertEqual(run(f"row a {number}\nfar a 0 0"), [f"{number} : 1"])
            self.assertEqual(run(f"quotient q 0 1 : 1\nvalue q {number}"), [number])

    def test_numbers_as_they_may_not_be_written(self):
        for number in ("00", "01", "-0", "-01", "+1", "--1", "1.0", "1e3", "0x1", "1_0", "0/1", "0/2", "-0/2", "1/1", "3/1", "2/4",
                       "-6/4", "1/0", "0/0", "1/02", "01/2", "1/-2", "-1/-2", "1/+2", "1/", "/2", "/", "-", "-/2", "1/2/3",
                       "1//2", "a", "1a", "a1", "(1)", "1,2", "\u0661", "\u00b2", "1\u0660", "1\u00bd", "1:", ":",
                       FORTY + "1", "-" + FORTY + "1", "1/" + FORTY + "1", FORTY + "1/7", "1" + "0" * 5000, "1/" + "3" * 5000):
            self.check_bad(2, ROW, QUOTIENT, f"row a {number}")
            self.check_bad(2, ROW, QUOTIENT, f"row a 1 {number} 2")
            self.check_bad(2, ROW, QUOTIENT, f"value q {number}")
            self.check_bad(2, ROW, QUOTIENT, f"sum a {number}")
            self.check_bad(2, ROW, QUOTIENT, f"quotient q 1 {number} : 1")
            self.check_bad(2, ROW, QUOTIENT, f"quotient q 1 : 1 {number}")
            if number != ":":
                self.check_bad(2, ROW, QUOTIENT, f"quotient q {number} : 1")

    def test_names(self):
        for name in ("a", "z", "abcdefgh", "row", "quotient"):
            self.check_good(f"row {name} 1", f"far {name} 0 0", f"quotient {name} 1 : 1", f"poles {name}")
        for name in ("", "abcdefghi", "A", "aB", "a1", "1", "a_b", "a-b", "\u00e4", "\u0430", "a.", ":", "-"):
            self.check_bad(1, ROW, f"row {name} 1")
            self.check_bad(1, ROW, f"quotient {name} 1 : 1")
            self.check_bad(1, ROW, f"far {name} 0 0")
            self.check_bad(1, ROW, f"poles {name}")

    def test_wholes(self):
        for whole in ("00", "01", "-1", "-0", "+1", "1/2", "1.0", "a", "", "1_0", "\u0661", "9" * 30, "9" * 41, "9" * 5000):
            for row in (f"far a {whole} 0", f"far a 0 {whole}", f"block a {whole} 0", f"block a 0 {whole}", f"places q {whole}",
                        f"prime {whole} a 0 0", f"prime 7 a {whole} 0", f"prime 7 a 0 {whole}"):
                self.check_bad(2, ROW, QUOTIENT, row)

    def test_heights(self):
        for word in ("far a", "block a", "prime 7 a"):
            self.check_good(ROW, f"{word} 23 23", f"{word} 0 23", f"{word} 23 0")
            self.check_bad(1, ROW, f"{word} 24 0")
            self.check_bad(1, ROW, f"{word} 0 24")
            self.check_bad(1, ROW, f"{word} 100 0")

    def test_places(self):
        self.check_good(QUOTIENT, "places q 40", "places q 0")
        self.check_bad(1, QUOTIENT, "places q 41")
        self.check_bad(1, QUOTIENT, "places q 100")

    def test_primes(self):
        for p in range(1100):
            if p in PRIMES:
                self.check_good(ROW, f"prime {p} a 0 0")
            else:
                self.check_bad(1, ROW, f"prime {p} a 0 0")
        self.assertEqual(PRIMES[-1], 997)
        self.check_bad(1, ROW, "prime 1009 a 0 0")

    def test_how_many_numbers(self):
        self.check_good("row a " + "1 " * 23 + "1")
        self.check_bad(0, "row a " + "1 " * 24 + "1")
        self.check_bad(0, "row a")
        nine, ten = "1 " * 8 + "2", "1 " * 9 + "2"
        self.check_good(f"quotient q {nine} : {nine}")
        self.check_good(f"quotient q : {nine}")
        self.check_bad(0, f"quotient q {ten} : 1")
        self.check_bad(0, f"quotient q 1 : {ten}")
        self.check_bad(0, "quotient q 1 : 1" + " 0" * 9)
        self.check_bad(0, "quotient q 1" + " 0" * 9 + " : 1")
        self.check_good("quotient q 1" + " 0" * 8 + " : 1" + " 0" * 8)

    def test_colons(self):
        for row in ("quotient q", "quotient q 1", "quotient q 1 1", "quotient q :", "quotient q 1 :", "quotient q : :",
                    "quotient q : 1 :", "quotient q 1 : 1 : 1", "quotient q : : 1", "quotient : 1", "quotient 1 : 1", "quotient :",
                    "row a :", "row a 1 : 1", "row a : 1"):
            self.check_bad(0, row)

    def test_belows_that_make_no_quotient(self):
        for row in ("quotient q 1 : 0", "quotient q : 0", "quotient q : 0 0 0", "quotient q 0 : 0", "quotient q 1 : 0 1",
                    "quotient q 0 1 : 0 0 1", "quotient q 1 1 : 0 1 1", "quotient q 5 : 0 0 0 1"):
            self.check_bad(1, ROW, row)
            top, colon, below = row.removeprefix("quotient q ").rpartition(":")
            top, below = (tuple((int(word), 1) for word in part.split()) for part in (top, below))
            cut = [part[: max((k + 1 for k, each in enumerate(part) if each[0]), default=0)] for part in (top, below)]
            self.assertRaises(NoQuotient, quotient_of, *cut)

    def test_names_that_are_not_there(self):
        for row in ("far b 0 0", "agrees b q", "agrees a b", "block b 0 0", "rule b", "value b 1", "places b 1", "sum b 1",
                    "poles b", "prime 7 b 0 0"):
            self.check_bad(2, ROW, QUOTIENT, row)
            self.check_bad(2, ROW, QUOTIENT, row, "row b 1", "quotient b 1 : 1")

    def test_names_of_the_wrong_kind(self):
        for row in ("far q 0 0", "agrees q a", "agrees q q", "agrees a a", "block q 0 0", "rule q", "value a 1", "places a 1",
                    "sum q 1", "poles a", "prime 7 q 0 0"):
            self.check_bad(2, ROW, QUOTIENT, row)
        self.check_bad(3, ROW, "far a 0 0", "quotient a 1 : 1", "far a 0 0")
        self.check_bad(3, QUOTIENT, "poles q", "row q 1", "poles q")

    def test_a_row_with_words_too_many_or_too_few(self):
        for row in ("far a 0 0", "agrees a q", "block a 0 0", "rule a", "value q 1", "places q 1", "sum a 1", "poles q",
                    "prime 7 a 0 0"):
            self.check_good(ROW, QUOTIENT, row)
            self.check_bad(2, ROW, QUOTIENT, row + " 0")
            self.check_bad(2, ROW, QUOTIENT, row + " a")
            self.check_bad(2, ROW, QUOTIENT, row.rpartition(" ")[0])
            self.check_bad(2, ROW, QUOTIENT, row.partition(" ")[0])

    def test_rows_are_counted_all(self):
        self.check_bad(0, "x")
        self.check_bad(3, "", "", "", "x")
        self.check_bad(4, "", ROW, "", "rule a", "x", "")
        self.check_bad(1, ROW, "x", "y", "far b 0 0")
        self.check_bad(2, ROW, "far a 23 23", "far a 0 24", "x")
        self.check_bad(79, *[ROW] * 79, "x")

    def test_ahead_of_all_answers(self):
        # The rows ahead have answers, short and pole among them; the one refused behind them goes first.
        self.check_bad(5, ROW, QUOTIENT, "far a 23 23", "value q 1", "places q 40", "quotient q 1 : 0 1")
        with self.assertRaises(BadRow) as caught:
            run(f"{ROW}\nfar a 1 1\nfar a 1 24\n")
        self.assertEqual(caught.exception.row, 2)

    def test_a_refused_row_tells_no_name(self):
        self.check_bad(0, "row b 1 x", "far b 0 0")
        self.assertEqual(run("row b 1\nfar b 0 0"), ["1 : 1"])
        self.check_bad(0, "far b 0 0")

    def test_asked_again_the_same(self):
        text = "\n".join([ROW, QUOTIENT, "far a 1 1", "places q 5", "rule a"])
        first, second = run(text), run(text=text)
        self.assertIsNot(first, second)
        kept = list(second)
        first.clear()
        self.assertEqual(second, kept)
        self.assertEqual(run(text), kept)


if __name__ == "__main__":
    unittest.main()

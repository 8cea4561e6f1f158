import unittest

from farquotient.errors import BadRow, FarError, NoQuotient, Pole, TooShort


class Errors(unittest.TestCase):
    def test_each_class_stands_straight_under_far_error(self):
        for refusal in (NoQuotient, Pole, TooShort, BadRow):
            self.assertEqual(refusal.__bases__, (FarError,))

    def test_far_error_stands_under_value_error(self):
        self.assertEqual(FarError.__bases__, (ValueError,))

    def test_those_made_with_words_bear_them(self):
        for refusal in (FarError, NoQuotient, Pole, TooShort):
            self.assertEqual(str(refusal("no such thing")), "no such thing")

    def test_bad_row_has_its_row(self):
        for row in (0, 1, 79):
            self.assertEqual(BadRow(row).row, row)
            self.assertEqual(BadRow(row=row).row, row)

    def test_each_is_taken_as_far_error_and_as_value_error(self):
        for refusal in (NoQuotient("a"), Pole("a"), TooShort("a"), BadRow(3)):
            for above in (FarError, ValueError):
                with self.assertRaises(above):
                    raise refusal

    def test_the_row_is_there_where_it_is_taken(self):
        with self.assertRaises(BadRow) as taken:
            raise BadRow(5)
        self.assertEqual(taken.exception.row, 5)


if __name__ == "__main__":
    unittest.main()

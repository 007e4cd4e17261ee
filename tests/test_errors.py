import unittest

from growbook.errors import BadPaper, BadRow, BookError, NoPlace


class Errors(unittest.TestCase):
    def test_book_error_is_beneath_value_error(self):
        self.assertTrue(issubclass(BookError, ValueError))

    def test_the_three_are_beneath_book_error(self):
        for kind in (NoPlace, BadRow, BadPaper):
            self.assertTrue(issubclass(kind, BookError))
            self.assertIsNot(kind, BookError)

    def test_none_of_the_three_is_beneath_another(self):
        kinds = (NoPlace, BadRow, BadPaper)
        for kind in kinds:
            for other in kinds:
                self.assertEqual(issubclass(kind, other), kind is other)

    def test_a_bad_row_has_its_row(self):
        for row in (0, 1, 20000):
            self.assertEqual(BadRow(row).row, row)

    def test_each_can_be_raised_and_taken(self):
        for error in (NoPlace("words"), BadRow(3), BadPaper("words")):
            with self.assertRaises(BookError) as taken:
                raise error
            self.assertIs(taken.exception, error)


if __name__ == "__main__":
    unittest.main()

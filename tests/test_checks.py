"""The checks of [5] that several modules share, and the figures of places."""

import unittest

from figurebooks.checks import check_bases, check_number
from figurebooks.errors import InvalidNumber, UnlikeBases
from figurebooks.figures import figures_of
from tests.bases import nothing


class NumberCheck(unittest.TestCase):

    def test_negative_numbers_are_refused(self):
        for number in (-1, -2, -10 ** 30):
            with self.assertRaises(InvalidNumber) as context:
                check_number(number)
            self.assertEqual(context.exception.value, number)

    def test_others_are_taken(self):
        for number in (0, 1, 10 ** 30):
            self.assertIsNone(check_number(number))


class BaseCheck(unittest.TestCase):

    def test_the_first_base_and_the_first_unlike_one_are_told(self):
        for bases, told in [([2, 3], (2, 3)), ([3, 2], (3, 2)), ([4, 4, 2, 3], (4, 2)),
                            ([2, 2, 2, 4], (2, 4)), ([3, 4, 3, 2], (3, 4))]:
            with self.subTest(bases):
                with self.assertRaises(UnlikeBases) as context:
                    check_bases([nothing(base) for base in bases])
                self.assertEqual(context.exception.value, told)

    def test_rows_of_one_base_are_taken(self):
        for base in (2, 3, 4):
            for number in (1, 2, 4):
                self.assertIsNone(check_bases([nothing(base)] * number))


class Figures(unittest.TestCase):

    def test_figures_are_the_highest_first(self):
        self.assertEqual(figures_of(0, 2), [])
        self.assertEqual(figures_of(1, 3), [1])
        self.assertEqual(figures_of(13, 2), [1, 1, 0, 1])
        self.assertEqual(figures_of(27, 3), [1, 0, 0, 0])
        self.assertEqual(figures_of(4 ** 50 - 1, 4), [3] * 50)


if __name__ == "__main__":
    unittest.main()

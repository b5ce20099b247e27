"""What the tests of the Base check share."""

from itertools import product

from figurebooks.books import Book
from figurebooks.errors import UnlikeBases
from figurebooks.rows import Row
from tests.refusals import RefusalCase
from tests.samples import place_book


def nothing(base):
    """Return the row of the book with no rows."""
    return Row(Book(base, []), [])


class BaseCase(RefusalCase):

    def assert_base_check_of_two(self, function):
        """Assert that a function of two rows refuses rows of unlike bases."""
        for base, other_base in product((2, 3, 4), repeat=2):
            if base != other_base:
                rows = [nothing(base), Row(Book(*place_book(other_base)), [2, 1])]
                self.assert_unlike((base, other_base), function, *rows)
                self.assert_unlike((other_base, base), function, *rows[::-1])

    def assert_base_check_of_lists(self, function):
        """Assert that a function of a list of rows refuses rows of unlike bases."""
        for number in (1, 2, 3, 4):
            for bases in product((2, 3, 4), repeat=number):
                rows = [Row(Book(*place_book(base)), [1, index]) for index, base in enumerate(bases)]
                unlike = [base for base in bases if base != bases[0]]
                with self.subTest(function=function, bases=bases):
                    if unlike:
                        self.assert_unlike((bases[0], unlike[0]), function, rows)
                        self.assertEqual([row.book.base for row in rows], list(bases))
                    else:
                        function(rows)

    def assert_unlike(self, value, function, *arguments):
        """Assert that a call raises just this error."""
        self.refused(UnlikeBases, value, function, *arguments)

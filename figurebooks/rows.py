"""Rows of a book: sums of multiples of its named rows."""

from figurebooks.checks import check_number
from figurebooks.errors import InvalidNumber
from figurebooks.vectors import unit_of, weighted_sum


class Row:
    """A sum of multiples of the named rows of a book. A row never changes."""

    def __init__(self, book, coefficients):
        """Make a row of a list of coefficients, one for each named row of the book."""
        if len(coefficients) != len(book.names):
            raise InvalidNumber(len(coefficients))
        self._book = book
        self._coefficients = list(coefficients)

    @property
    def book(self):
        """The book whose row it is."""
        return self._book

    @property
    def coefficients(self):
        """The coefficients, in the sequence of the named rows of the book."""
        return list(self._coefficients)

    def value_at(self, place):
        """Return the value at a place."""
        check_number(place)
        return weighted_sum(self._coefficients, self._book.system.values_at(place))

    def first_values(self, number):
        """Return the list of the first values, so many."""
        check_number(number)
        system = self._book.system
        reached = [system.starts]
        for place in range(1, number):
            reached.append(system.stepped(reached[place // system.base], place % system.base))
        return [weighted_sum(self._coefficients, values) for values in reached[:number]]

    def __eq__(self, other):
        return (
            isinstance(other, Row)
            and self._book == other._book
            and self._coefficients == other._coefficients
        )


def row_named(book, name):
    """Return the row of a book that is its row with a name."""
    return Row(book, unit_of(book.index_of(name), len(book.names)))

"""Rows of a book: sums of multiples of its named rows."""

from figurebooks.checks import check_number
from figurebooks.errors import InvalidNumber
from figurebooks.figures import figures_of


class Row:
    """A sum of multiples of the named rows of a book. A row never changes."""

    def __init__(self, book, coefficients):
        """Make a row of a list of coefficients, one for each named row of the book."""
        if len(coefficients) != len(book.names):
            raise InvalidNumber(len(coefficients))
        self._book = book
        self._coefficients = list(coefficients)

    @property
    def book(self):
        """The book whose row it is."""
        return self._book

    @property
    def coefficients(self):
        """The coefficients, in the sequence of the named rows of the book."""
        return list(self._coefficients)

    def value_at(self, place):
        """Return the value at a place."""
        check_number(place)
        values = self._book.starts
        for figure in figures_of(place, self._book.base):
            values = self._book.stepped(values, figure)
        return _weighted_sum(self._coefficients, values)

    def first_values(self, number):
        """Return the list of the first values, so many."""
        check_number(number)
        base = self._book.base
        reached = [self._book.starts]
        for place in range(1, number):
            reached.append(self._book.stepped(reached[place // base], place % base))
        return [_weighted_sum(self._coefficients, values) for values in reached[:number]]

    def __eq__(self, other):
        return (
            isinstance(other, Row)
            and self._book == other._book
            and self._coefficients == other._coefficients
        )


def row_named(book, name):
    """Return the row of a book that is its row with a name."""
    coefficients = [0] * len(book.names)
    coefficients[book.index_of(name)] = 1
    return Row(book, coefficients)


def _weighted_sum(weights, values):
    """Return the sum of the products of weights and values at the same places of two lists."""
    return sum([weight * value for weight, value in zip(weights, values)])

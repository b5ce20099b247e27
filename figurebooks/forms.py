"""Plain rows: for each row the one row of the one book that is the same for all books that write it."""

from figurebooks.books import Book
from figurebooks.kin import Kin, shortest
from figurebooks.rows import Row

LETTERS = "abcdefghijklmnopqrstuvwxyz"


def plain(row):
    """Return the plain row of a row."""
    return plain_of(row.book.system, row.coefficients)


def rank_of(row):
    """Return the number of the nodes of a row."""
    return len(nodes_of(row))


def nodes_of(row):
    """Return the ascending list of the nodes of a row."""
    return Kin(row.book.system, row.coefficients).nodes()


def plain_of(system, weights):
    """Return the plain row of the sum of the rows of a system with given weights."""
    told, multiples = shortest(system, weights)
    rows = []
    for index, start in enumerate(told.starts):
        formulas = [[(multiple, LETTERS[other]) for multiple, other in step[index]] for step in told.steps]
        rows.append((LETTERS[index], start, formulas))
    return Row(Book(told.base, rows), multiples)

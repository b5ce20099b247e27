"""Plain rows: for each row the one row of the one book that is the same for all books that write it."""

from figurebooks.books import Book
from figurebooks.kin import Kin
from figurebooks.rows import Row

LETTERS = "abcdefghijklmnopqrstuvwxyz"


def plain(row):
    """Return the plain row of a row."""
    return plain_of(row.book.system, row.coefficients)


def rank_of(row):
    """Return the number of the nodes of a row."""
    return len(nodes_of(row))


def nodes_of(row):
    """Return the ascending list of the nodes of a row."""
    return Kin(row.book.system, row.coefficients).nodes()


def plain_of(system, weights):
    """Return the plain row of the sum of the rows of a system with given weights."""
    kin = Kin(system, weights)
    names = LETTERS[:len(kin.nodes())]
    rows = []
    for index, name in enumerate(names):
        formulas = [_terms_of(multiples, names) for multiples in kin.formulas_of(index)]
        rows.append((name, kin.start_of(index), formulas))
    return Row(Book(system.base, rows), kin.multiples_of(weights))


def _terms_of(multiples, names):
    """Return the terms of a formula, without those that add nothing."""
    return [(multiple, name) for multiple, name in zip(multiples, names) if multiple != 0]

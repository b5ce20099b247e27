"""Readings: books and rows from their texts."""

from figurebooks.books import Book
from figurebooks.errors import BookError, Unreadable
from figurebooks.rows import Row
from figurebooks.texts import show_book, show_row

DIGITS = "0123456789"
MOST_DIGITS = 40


def read_book(text):
    """Return the book with a text."""
    try:
        book = _book_in(text)
    except BookError:
        raise Unreadable(text) from None
    # What is read may have been written in another way, such as with a zero ahead of a number.
    if show_book(book) != text:
        raise Unreadable(text)
    return book


def read_row(text):
    """Return the row with a text."""
    try:
        row = _row_in(text)
    except BookError:
        raise Unreadable(text) from None
    if show_row(row) != text:
        raise Unreadable(text)
    return row


def _row_in(text):
    """Return a row that is read from a text, if it is the text of one."""
    told, _, book_text = text.partition(" of ")
    coefficients = []
    if told != "none":
        coefficients = [_integer_in(word) for word in told.split(" ")]
    return Row(_book_in(book_text), coefficients)


def _book_in(text):
    """Return a book that is read from a text, if it is the text of one."""
    base, _, told = text.partition(":")
    rows = []
    if told != "":
        rows = [_named_in(part.strip()) for part in told.split(";")]
    return Book(_integer_in(base), rows)


def _named_in(text):
    """Return the name, the start and the formulas of a named row that are read from a text."""
    parts = text.split(" | ")
    name, _, start = parts[0].partition(" ")
    return name, _integer_in(start), [_formula_in(part) for part in parts[1:]]


def _formula_in(text):
    """Return the terms that are read from the text of a formula."""
    if text == "0":
        return []
    terms = []
    for part in text.split(" + "):
        coefficient, _, name = part.partition(" ")
        terms.append((_integer_in(coefficient), name))
    return terms


def _integer_in(word):
    """Return the integer that is read from a word."""
    digits = word.removeprefix("-")
    if not 1 <= len(digits) <= MOST_DIGITS or any([digit not in DIGITS for digit in digits]):
        raise Unreadable(word)
    return int(word)

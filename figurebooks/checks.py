"""The checks of arguments that several modules share."""

from figurebooks.errors import InvalidBase, InvalidNumber, UnlikeBases


def check_base(base):
    """Raise `InvalidBase(base)` unless it is 2, 3 or 4."""
    if base not in (2, 3, 4):
        raise InvalidBase(base)


def is_letter(name):
    """Tell whether a name is one letter from a to z."""
    return len(name) == 1 and "a" <= name <= "z"


def check_number(number):
    """The Number check: raise `InvalidNumber(number)` if it is negative."""
    if number < 0:
        raise InvalidNumber(number)


def check_positive(number):
    """Raise `InvalidNumber(number)` if it is less than 1."""
    if number < 1:
        raise InvalidNumber(number)


def check_bases(rows):
    """The Base check: raise `UnlikeBases((base, base))` unless all rows have one base."""
    for row in rows:
        if row.book.base != rows[0].book.base:
            raise UnlikeBases((rows[0].book.base, row.book.base))

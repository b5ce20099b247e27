"""Texts: books and rows in writing."""


def show_book(book):
    """Return the text of a book."""
    return f"{book.base}:" + ";".join([_show_named(book, name) for name in book.names])


def show_row(row):
    """Return the text of a row."""
    shown = "none"
    if row.coefficients:
        shown = " ".join([str(coefficient) for coefficient in row.coefficients])
    return f"{shown} of {show_book(row.book)}"


def _show_named(book, name):
    """Return the text of a named row, with a space ahead."""
    formulas = [f" | {_show_formula(terms)}" for terms in book.formulas_of(name)]
    return f" {name} {book.start_of(name)}" + "".join(formulas)


def _show_formula(terms):
    """Return the text of a formula."""
    if not terms:
        return "0"
    return " + ".join([f"{coefficient} {name}" for coefficient, name in terms])

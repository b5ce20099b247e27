"""Comparing rows that may be of different books."""

from figurebooks.spans import spanning_places
from figurebooks.systems import united


def compared(rows):
    """Return the spanning places of the books of rows of one base, and the values of each row there."""
    books = []
    for row in rows:
        if row.book not in books:
            books.append(row.book)
    places = spanning_places(united([book.system for book in books]))
    return places, [[row.value_at(place) for place in places] for row in rows]

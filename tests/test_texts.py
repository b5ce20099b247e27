"""The interface of `show_book` and `show_row`, and promises [2] and [4] for them."""

import copy
import unittest

from figurebooks import texts
from figurebooks.books import Book
from figurebooks.forms import plain
from figurebooks.joins import scaled
from figurebooks.readings import read_book, read_row
from figurebooks.rows import Row, row_named
from figurebooks.texts import show_book, show_row
from tests.examples import ExampleCase
from tests.samples import BOOKS, FOURS, MIXED, ONES, STERN, coarse_book, place_book, sound_book

# Word for word as in the interface.
EXAMPLE = """
>>> from figurebooks.books import Book
>>> from figurebooks.readings import read_book, read_row
>>> from figurebooks.rows import Row
>>> from figurebooks.texts import show_book, show_row
>>> ones = Book(2, [("o", 0, [[(1, "o")], [(1, "o"), (1, "e")]]), ("e", 1, [[(1, "e")], [(1, "e")]])])
>>> [show_book(ones), show_row(Row(ones, [2, -1])), show_row(Row(Book(3, []), [])), read_book(show_book(ones)) == ones, read_row('1 of 2: z 1 | 1 z | 0').first_values(3)]
['2: o 0 | 1 o | 1 o + 1 e; e 1 | 1 e | 1 e', '2 -1 of 2: o 0 | 1 o | 1 o + 1 e; e 1 | 1 e | 1 e', 'none of 3:', True, [1, 0, 0]]
"""

SHOWN = [
    ((2, []), "2:"),
    ((3, []), "3:"),
    ((4, []), "4:"),
    (ONES, "2: o 0 | 1 o | 1 o + 1 e; e 1 | 1 e | 1 e"),
    (STERN, "2: s 0 | 1 s | 1 s + 1 t; t 1 | 1 s + 1 t | 1 t"),
    (MIXED, "3: q -7 | 2 q + -1 q | 0 z + 3 u | -9 q + 4 z + 1 u; u 1 | 1 u | 0 | 1 u + 1 u + -5 z;"
            " z 0 | 0 | 1 q | 0 q"),
    (FOURS, "4: a 2 | 2 b | 1 a + 1 a + 1 a | 0 | -1 c + 9 a; b 1 | 1 b | 1 b + 1 c | 1 b + 2 c | 0 a;"
            " c -3 | -5 b + 1 a | 1 c | 7 b + -2 c | 1 c"),
    ((2, [("z", 1, [[(1, "z")], []])]), "2: z 1 | 1 z | 0"),
    ((4, [("n", 0, [[], [], [], []])]), "4: n 0 | 0 | 0 | 0 | 0"),
    ((2, [("a", 0, [[(0, "a")], [(-9, "a"), (9, "a")]])]), "2: a 0 | 0 a | -9 a + 9 a"),
]


def as_told(base, rows):
    """Put the text of a book together as the words of the interface tell it."""
    text = str(base) + ":"
    for index, (name, start, formulas) in enumerate(rows):
        if index > 0:
            text += ";"
        text += " " + name + " " + str(start)
        for terms in formulas:
            shown = [str(factor) + " " + other for factor, other in terms]
            text += " | " + (" + ".join(shown) if shown else "0")
    return text


class Example(ExampleCase):

    def test_the_example_of_the_interface(self):
        self.assert_example(EXAMPLE)


class Books(unittest.TestCase):

    def test_texts_word_for_word(self):
        for (base, rows), text in SHOWN:
            self.assertEqual(show_book(Book(base, rows)), text)
            self.assertEqual(as_told(base, rows), text)

    def test_books_of_no_row_to_six(self):
        for count in range(7):
            for base in (2, 3, 4):
                told = coarse_book(count, base, count)
                self.assertEqual(show_book(Book(*told)), as_told(*told))
        for seed in range(9):
            told = sound_book(seed, 2 + seed % 3)
            self.assertEqual(show_book(Book(*told)), as_told(*told))

    def test_rows_stand_in_the_sequence_of_the_book(self):
        self.assertEqual(show_book(Book(2, ONES[1][::-1])), "2: e 1 | 1 e | 1 e; o 0 | 1 o | 1 o + 1 e")

    def test_great_numbers(self):
        rows = [("a", -10 ** 30, [[(1, "a")], [(10 ** 30, "a"), (-10 ** 29, "a")]])]
        self.assertEqual(show_book(Book(2, rows)), f"2: a -1{'0' * 30} | 1 a | 1{'0' * 30} a + -1{'0' * 29} a")

    def test_unlike_books_have_unlike_texts(self):
        told = [text for _, text in SHOWN]
        self.assertEqual(len(set(told)), len(told))


class Rows(unittest.TestCase):

    def test_texts_word_for_word(self):
        for (base, rows), text in SHOWN:
            book = Book(base, rows)
            for coefficients in ([0, 0, 0], [1, -1, 99], [-99, 10 ** 30, 0]):
                own = coefficients[:len(rows)]
                shown = {0: "none", 1: f"{coefficients[0]}", 2: f"{coefficients[0]} {coefficients[1]}",
                         3: f"{coefficients[0]} {coefficients[1]} {coefficients[2]}"}[len(rows)]
                self.assertEqual(show_row(Row(book, own)), f"{shown} of {text}")

    def test_known_ones(self):
        self.assertEqual(show_row(Row(Book(3, []), [])), "none of 3:")
        self.assertEqual(show_row(Row(Book(2, [("z", 1, [[(1, "z")], []])]), [0])), "0 of 2: z 1 | 1 z | 0")
        self.assertEqual(show_row(plain(row_named(Book(*ONES), "o"))),
                         "0 1 of 2: a 1 | 1 a | -1 b; b 0 | 1 b | 1 a + 2 b")


class Arguments(unittest.TestCase):

    def test_arguments_by_name(self):
        self.assertEqual(show_book(book=Book(2, [])), "2:")
        self.assertEqual(show_row(row=Row(Book(2, []), [])), "none of 2:")

    def test_nothing_that_was_passed_is_modified(self):
        for base, rows in copy.deepcopy(BOOKS):
            book = Book(base, rows)
            row = Row(book, [1] * len(rows))
            show_book(book), show_row(row)
            self.assertEqual(book, Book(base, rows))
            self.assertEqual(row, Row(book, [1] * len(rows)))

    def test_what_was_returned_may_be_passed_on(self):
        for base, rows in BOOKS + [place_book(3)]:
            row = scaled(row_named(Book(base, rows), rows[0][0]), 7)
            self.assertEqual(read_row(show_row(row)), row)
            self.assertEqual(read_book(show_book(row.book)), row.book)

    def test_the_listed_functions_are_defined_in_their_file(self):
        for name in ("show_book", "show_row"):
            self.assertEqual(getattr(texts, name).__module__, "figurebooks.texts")


if __name__ == "__main__":
    unittest.main()

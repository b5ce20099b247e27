"""What the document promises over the whole program: [2], [3], [6], [7], and the listed names."""

import importlib
import inspect
import random
import unittest

from figurebooks import errors
from figurebooks.books import Book
from figurebooks.ends import alike_from, last_place
from figurebooks.forms import nodes_of, plain, rank_of
from figurebooks.joins import added, moved, part, product, scaled, thinned, woven
from figurebooks.parting import are_alike, classes, parting
from figurebooks.readings import read_book, read_row
from figurebooks.relations import relations
from figurebooks.repeats import far_rest, recurrence, repeated
from figurebooks.rests import count_rest, first_rest, rests_of
from figurebooks.rows import Row, row_named
from figurebooks.shelves import Shelf, SmallShelf
from figurebooks.texts import show_book, show_row
from figurebooks.totals import total_between, totals_of
from tests.bases import nothing
from tests.samples import FOURS, MIXED, ONES, STERN
from tests.samples import alone_book, chain_book, coarse_book, falling_book, place_book, ring_book
from tests.samples import sound_book, telling_places
from tests.writings import row_of, writings_of

# Each file with what the interface lists for it, and the arguments.
LISTED = {
    "books": {"Book": ["base", "rows"]},
    "rows": {"Row": ["book", "coefficients"], "row_named": ["book", "name"]},
    "totals": {"total_between": ["row", "low", "high"], "totals_of": ["row"]},
    "forms": {"plain": ["row"], "rank_of": ["row"], "nodes_of": ["row"]},
    "parting": {"parting": ["row", "other_row"], "are_alike": ["row", "other_row"], "classes": ["rows"]},
    "relations": {"relations": ["rows"]},
    "ends": {"last_place": ["row"], "alike_from": ["row", "other_row"]},
    "joins": {"added": ["row", "other_row"], "scaled": ["row", "number"], "product": ["row", "other_row"],
              "part": ["row", "figure"], "woven": ["rows"], "thinned": ["row", "factor", "first"],
              "moved": ["row", "steps"]},
    "rests": {"first_rest": ["row", "modulus", "rest"], "count_rest": ["row", "modulus", "rest", "number"],
              "rests_of": ["row", "modulus"]},
    "repeats": {"repeated": ["row", "head", "block", "times"],
                "far_rest": ["row", "head", "block", "times", "modulus"], "recurrence": ["row", "head", "block"]},
    "shelves": {"Shelf": ["base"], "SmallShelf": ["base", "most"]},
    "texts": {"show_book": ["book"], "show_row": ["row"]},
    "readings": {"read_book": ["text"], "read_row": ["text"]},
}
METHODS = {
    "Book": {"start_of": ["name"], "formulas_of": ["name"], "__eq__": None, "__init__": None},
    "Row": {"value_at": ["place"], "first_values": ["number"], "__eq__": None, "__init__": None},
    "Shelf": {"put": ["title", "row"], "drop": ["title"], "undo": [], "row_on": ["title"], "alike_on": ["row"],
              "story": [], "__len__": None, "__eq__": None, "__init__": None},
    "SmallShelf": {"put": ["title", "row"], "__init__": None},
}
PROPERTIES = {"Book": ["base", "names"], "Row": ["book", "coefficients"], "Shelf": ["titles"], "SmallShelf": []}


def on_shelf(row):
    """Put the plain row on a shelf, and ask for rows alike to the row."""
    shelf = SmallShelf(row.book.base, rank_of(row))
    shelf.put("k", plain(row))
    shelf.put("l", nothing(row.book.base))
    return shelf.alike_on(row)


def questions(base):
    """Return all that rows of one base can be asked, as functions of the row that do not tell how it is written."""
    place = Row(Book(*place_book(base)), [2, 1])
    found = [lambda row, n=n: row.value_at(n) for n in telling_places(base)[::9]]
    found += [lambda row: row.first_values(50), rank_of, nodes_of, plain, totals_of, last_place, on_shelf]
    found += [lambda row, n=n: total_between(row, n, 10 ** 30) for n in (0, 1, 10 ** 29)]
    found += [lambda row: parting(row, place), lambda row: parting(place, row), lambda row: are_alike(row, place)]
    found += [lambda row: alike_from(row, place), lambda row: classes([place, row, nothing(base), row])]
    found += [lambda row: relations([row, place, totals_of(place)]), lambda row: relations([row])]
    found += [lambda row: added(row, place), lambda row: scaled(row, -12), lambda row: show_row(plain(row))]
    found += [lambda row, figure=figure: part(row, figure) for figure in range(base)]
    found += [lambda row: woven([row] * (base - 1) + [place]), lambda row: thinned(row, 3, 2)]
    found += [lambda row: moved(row, 5), lambda row: product(row, place), lambda row: product(row, row)]
    found += [lambda row, m=m: rests_of(row, m) for m in (1, 2, 4)]
    found += [lambda row, m=m: [first_rest(row, m, rest) for rest in range(m)] for m in (1, 3, 4)]
    found += [lambda row: count_rest(row, 3, 1, 10 ** 30), lambda row: count_rest(row, 2, 0, 10 ** 29)]
    found += [lambda row: repeated(row, 10 ** 29, [1, 0, 1], 30), lambda row: repeated(row, 0, [0, 1], 9)]
    found += [lambda row: far_rest(row, 5, [1, 0], 10 ** 30, 10 ** 12), lambda row: recurrence(row, 1, [1, 0, 1])]
    return found + [lambda row: recurrence(row, 0, [base - 1])]


class Written(unittest.TestCase):

    def test_alike_rows_that_are_written_by_unlike_books(self):
        told = [STERN + ([2, -3],), MIXED + ([1, 1, -2],), FOURS + ([1, 0, 2],), place_book(3) + ([4, 6],)]
        told += [coarse_book(5, 2, 3) + ([4, -6, 9],), falling_book(3, 3, 3) + ([0, 2, 1],), alone_book(4, 9) + ([6, 0, 0],)]
        for base, rows, coefficients in told:
            asked = questions(base)
            expected = [ask(row_of(base, rows, coefficients)) for ask in asked]
            for writing in writings_of(base, rows, coefficients):
                row = row_of(*writing)
                with self.subTest(writing):
                    self.assertEqual([ask(row) for ask in asked], expected)

    def test_rows_of_six_rows(self):
        # Of these all is asked but what callers ask of rows of rank at most 3 alone.
        for base in (2, 3, 4):
            rows = chain_book(base, 4, factor=2, last_factor=3)[1]
            coefficients = [1, 0, 4, -5]
            asked = questions(base)
            for writing in writings_of(base, rows, coefficients)[:8]:
                row, own = row_of(*writing), row_of(base, rows, coefficients)
                for ask in asked:
                    self.assertEqual(ask(row), ask(own))

    def test_a_row_asked_by_turns_answers_as_a_new_one_does(self):
        for base, rows, coefficients in (ONES + ([3, -1],), MIXED + ([1, 1, -2],), FOURS + ([1, 0, 2],)):
            asked = questions(base)
            row = row_of(base, rows, coefficients)
            choice = random.Random(base)
            for ask in choice.choices(asked, k=150):
                self.assertEqual(ask(row), ask(row_of(base, rows, coefficients)))
            self.assertEqual(row, row_of(base, rows, coefficients))
            self.assertEqual(show_row(row), show_row(row_of(base, rows, coefficients)))

    def test_a_book_that_many_rows_share(self):
        book = Book(*MIXED)
        rows = [Row(book, [1, index, -index]) for index in range(6)]
        for ask in questions(3)[::4]:
            self.assertEqual([ask(row) for row in rows], [ask(row_of(*MIXED, row.coefficients)) for row in rows])
        self.assertEqual(book, Book(*MIXED))


class GreatRank(unittest.TestCase):

    def difference(self, base):
        """Return the difference of rows of two books of six rows, in a ring and in a chain."""
        ring = row_of(*ring_book(base, 6), [1] + [0] * 5)
        chain = row_of(*chain_book(base, 6), [1] + [0] * 5)
        return added(ring, scaled(chain, -1))

    def test_nodes(self):
        for base in (2, 3, 4):
            row = self.difference(base)
            self.assertEqual(nodes_of(row), [base ** j - 1 for j in range(12)])
            self.assertEqual(rank_of(row), 12)
            self.assertEqual(row.book.names, list("abcdefghijkl"))
            self.assertEqual(plain(row), row)

    def test_values(self):
        # 1 where the greatest figure stands 11, 17, .. times in the number.
        for base in (2, 3, 4):
            row = self.difference(base)
            for number in range(40):
                self.assertEqual(row.value_at(base ** number - 1), int(number % 6 == 5 and number > 5))
                self.assertEqual(row.value_at((base - 1) * base ** 60 + base ** number - 1), int(number % 6 == 4 and number > 4))
            self.assertEqual(total_between(row, 0, base ** 11 - 2), 0)
            self.assertEqual(total_between(row, 0, base ** 12 - 1), 12 * (base - 1))

    def test_all_that_is_asked_of_rows_of_any_rank(self):
        for base in (2, 3, 4):
            row, none = self.difference(base), nothing(base)
            self.assertEqual(parting(row, none), (base ** 11 - 1, 1))
            self.assertIsNone(last_place(row))
            self.assertIsNone(alike_from(row, none))
            self.assertEqual(classes([row, none, plain(row)]), [[0, 2], [1]])
            self.assertEqual(relations([row, none, scaled(row, 4)]), [[4, 0, -1], [0, 1, 0]])
            self.assertEqual([first_rest(row, 2, rest) for rest in (0, 1)], [0, base ** 11 - 1])
            self.assertEqual(repeated(row, 0, [base - 1], 29), 1)
            self.assertEqual(far_rest(row, 0, [base - 1], 10 ** 30 - 1 - (10 ** 30 - 6) % 6, 10 ** 12), 1)
            self.assertEqual(recurrence(row, 0, [base - 1]), [0] * 5 + [1] + [0] * 6)
            self.assertEqual(read_row(show_row(row)), row)
            self.assertEqual(part(row, 0), row)
            self.assertEqual(rank_of(part(row, base - 1)), 11)
            self.assertEqual(rank_of(totals_of(row)), 23 if base == 2 else 24)
            self.assertEqual(plain(totals_of(row)), totals_of(row))
            shelf = SmallShelf(base, 12)
            shelf.put("a", row)
            self.assertEqual(shelf.alike_on(plain(row)), ["a"])

    def test_rows_that_end_far_out(self):
        for base in (2, 3, 4):
            one = row_of(*alone_book(base, base ** 5 - 1), [1] + [0] * 5)
            other = row_of(*falling_book(base, base, 6), [0, 0, 0, 0, 0, 1])
            found = added(one, other)
            self.assertEqual(alike_from(found, other), base ** 5)
            self.assertEqual(alike_from(found, one), last_place(other) + 1)

    def test_totals_of_rows_of_six_rows(self):
        for base in (2, 3, 4):
            row = row_of(*coarse_book(base, base, 6), [1, -2, 3, -4, 5, -6])
            found = totals_of(row)
            self.assertEqual(added(moved(found, 1), scaled(found, -1)), plain(row))
            self.assertEqual(found.value_at(10 ** 30), total_between(row, 0, 10 ** 30 - 1))
            self.assertEqual(plain(found), found)


    def test_rows_of_books_with_many_terms(self):
        # Of these the plain books have great numbers, and are to be compared without walking or waiting.
        for base in (2, 3, 4):
            sums = [added(row_of(*sound_book(seed, base), [1, 2, 3, 4, 5]), row_of(*sound_book(seed + 1, base), [5, 4, 3, 2, 1]))
                    for seed in (3, 5, 7)]
            rows = [totals_of(row) for row in sums]
            self.assertGreater(min(rank_of(row) for row in rows), 15)
            for row, other in zip(rows, rows[1:] + rows[:1]):
                self.assertIsNone(last_place(row))
                self.assertIsNone(alike_from(row, other))
                self.assertEqual(alike_from(row, plain(row)), 0)
                place, difference = parting(row, other)
                self.assertEqual(row.value_at(place) - other.value_at(place), difference)
                self.assertEqual(len(recurrence(row, 10 ** 30, [1])), len(recurrence(plain(row), 10 ** 30, [1])))
            self.assertEqual(classes(rows + rows), [[0, 3], [1, 4], [2, 5]])
            self.assertEqual(relations(rows), [])
            self.assertEqual(relations(rows + [scaled(rows[1], 3)]), [[0, 3, 0, -1]])
            alone = row_of(*alone_book(base, base), [2, 0, 0])
            self.assertEqual(alike_from(added(rows[0], alone), rows[0]), base + 1)


class Nothing(unittest.TestCase):

    def test_of_the_row_of_a_book_without_rows_is_told_what_is_told_of_nought(self):
        for base in (2, 3, 4):
            row, other = nothing(base), Row(Book(*place_book(base)), [0, 0])
            for ask in questions(base):
                self.assertEqual(ask(row), ask(other))

    def test_what_that_is(self):
        for base in (2, 3, 4):
            row, place = nothing(base), row_named(Book(*place_book(base)), "p")
            self.assertEqual([row.value_at(n) for n in telling_places(base)], [0] * len(telling_places(base)))
            self.assertEqual((rank_of(row), nodes_of(row), last_place(row), plain(row)), (0, [], -1, row))
            self.assertEqual((totals_of(row), total_between(row, 5, 10 ** 30)), (row, 0))
            self.assertEqual((parting(row, place), parting(row, row)), ((1, -1), None))
            self.assertEqual((alike_from(row, row), alike_from(row, place)), (0, None))
            self.assertEqual((classes([row, place, row]), relations([row])), ([[0, 2], [1]], [[1]]))
            self.assertEqual((added(row, row), scaled(row, 10 ** 30), product(row, place)), (row, row, row))
            self.assertEqual(([part(row, figure) for figure in range(base)], woven([row] * base)), ([row] * base, row))
            self.assertEqual((thinned(row, 4, 9), moved(row, 8)), (row, row))
            self.assertEqual((first_rest(row, 12, 0), first_rest(row, 12, 1), rests_of(row, 12)), (0, None, [0]))
            self.assertEqual((count_rest(row, 12, 0, 10 ** 30), count_rest(row, 12, 5, 10 ** 30)), (10 ** 30 + 1, 0))
            self.assertEqual((repeated(row, 10 ** 30, [1], 30), far_rest(row, 3, [1], 10 ** 30, 7)), (0, 0))
            self.assertEqual(recurrence(row, 3, [1, 0]), [])
            self.assertEqual((show_book(row.book), show_row(row)), (f"{base}:", f"none of {base}:"))
            self.assertEqual((read_book(f"{base}:"), read_row(f"none of {base}:")), (row.book, row))
            shelf = SmallShelf(base, 0)
            shelf.put("a", row)
            self.assertEqual((shelf.alike_on(Row(Book(*place_book(base)), [0, 0])), len(shelf)), (["a"], 1))


class Listed(unittest.TestCase):

    def test_functions_and_classes_are_defined_in_their_files_with_their_arguments(self):
        for file, names in LISTED.items():
            module = importlib.import_module("figurebooks." + file)
            for name, arguments in names.items():
                told = getattr(module, name)
                self.assertEqual((told.__module__, told.__name__), ("figurebooks." + file, name))
                self.assertEqual(list(inspect.signature(told).parameters), arguments)
                if name in METHODS:
                    self.assert_class(told, METHODS[name], PROPERTIES[name])

    def assert_class(self, told, methods, properties):
        for name, arguments in methods.items():
            self.assertIn(name, vars(told))
            if arguments is not None:
                self.assertEqual(list(inspect.signature(vars(told)[name]).parameters)[1:], arguments)
        for name in properties:
            self.assertIsInstance(vars(told)[name], property)

    def test_listed_properties_cannot_be_assigned(self):
        for thing in (Book(*ONES), row_named(Book(*ONES), "o"), Shelf(2)):
            for name in PROPERTIES[type(thing).__name__]:
                with self.assertRaises(AttributeError):
                    setattr(thing, name, None)

    def test_errors(self):
        for name, told in vars(errors).items():
            if isinstance(told, type):
                self.assertEqual(list(inspect.signature(told).parameters), ["value"])


if __name__ == "__main__":
    unittest.main()

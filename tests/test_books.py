"""Promises [2] and [4] and the interface of `Book`."""

import copy
import unittest

from figurebooks.books import Book
from figurebooks.errors import InvalidBase, InvalidFormula, InvalidName, Unsound
from tests.equality import EqualityCase, Like
from tests.samples import BOOKS, FOURS, MIXED, ONES, STERN, place_book, sound_book


def still(name, start=0, base=2):
    """Return a named row whose formulas for all figures give its own value."""
    return name, start, [[(1, name)]] * base


class BookCase(unittest.TestCase):

    def refused(self, error, value, base, rows):
        """Assert that a book is refused with exactly this error, and nothing passed is modified."""
        before = copy.deepcopy(rows)
        with self.assertRaises(error) as context:
            Book(base, rows)
        self.assertIs(type(context.exception), error)
        self.assertEqual(context.exception.value, value)
        self.assertEqual(rows, before)


class BaseCheck(BookCase):

    def test_other_bases_are_refused(self):
        for base in (-10 ** 30, -2, -1, 0, 1, 5, 6, 10, 10 ** 30):
            with self.subTest(base):
                self.refused(InvalidBase, base, base, [])

    def test_two_three_and_four_are_taken(self):
        for base in (2, 3, 4):
            with self.subTest(base):
                self.assertEqual(Book(base, []).base, base)


class NameCheck(BookCase):

    def test_names_that_are_not_one_letter_are_refused(self):
        for name in ("", "A", "Z", "0", "9", " ", "_", "-", "`", "{", "~", "ab", "aa", "a ", " a"):
            with self.subTest(name):
                self.refused(InvalidName, name, 2, [(name, 0, [[], []])])
                self.refused(InvalidName, name, 2, [still("b"), still(name)])

    def test_each_letter_is_taken(self):
        letters = list("abcdefghijklmnopqrstuvwxyz")
        self.assertEqual(Book(2, [still(letter) for letter in letters]).names, letters)

    def test_names_that_occurred_before_are_refused(self):
        self.refused(InvalidName, "a", 2, [still("a"), still("a")])
        self.refused(InvalidName, "b", 2, [still("a"), still("b"), still("c"), still("b")])

    def test_the_first_such_name_is_told(self):
        self.refused(InvalidName, "b", 2, [still("a"), still("b"), still("b"), still("a")])
        self.refused(InvalidName, "B", 2, [still("a"), still("B"), still("a"), still("C")])
        self.refused(InvalidName, "a", 2, [still("a"), still("a"), still("B")])


class FormulaCheck(BookCase):

    def test_another_number_of_formulas_is_refused(self):
        for base in (2, 3, 4):
            for number in (0, 1, 2, 3, 4, 5, 6):
                with self.subTest(base=base, number=number):
                    rows = [still("a", 0, base), ("b", 0, [[]] * number)]
                    if number == base:
                        self.assertEqual(Book(base, rows).formulas_of("b"), [[]] * number)
                    else:
                        self.refused(InvalidFormula, "b", base, rows)

    def test_terms_of_names_that_there_are_not_are_refused(self):
        for name in ("b", "A", "", "aa", " "):
            for coefficient in (1, 0, -9):
                for figure in (0, 1, 2):
                    with self.subTest(name=name, coefficient=coefficient, figure=figure):
                        formulas = [[(1, "a")], [(1, "a")], [(1, "a")]]
                        formulas[figure] = [(1, "a"), (coefficient, name)]
                        self.refused(InvalidFormula, "a", 3, [("a", 0, formulas)])

    def test_the_first_such_row_is_told(self):
        short, unknown = ("s", 0, [[]]), ("u", 0, [[], [(1, "x")]])
        self.refused(InvalidFormula, "s", 2, [still("a"), short, unknown])
        self.refused(InvalidFormula, "u", 2, [still("a"), unknown, short])

    def test_terms_may_be_of_later_rows(self):
        self.assertEqual(Book(2, [("a", 0, [[(1, "b")], [(1, "b")]]), still("b")]).names, ["a", "b"])


class StartCheck(BookCase):

    def test_a_start_that_its_formula_does_not_make_is_refused(self):
        for start, terms in [(1, []), (0, [(1, "u")]), (5, [(1, "a"), (1, "u")]), (-3, [(-1, "a")]),
                             (2, [(1, "u")]), (99, [(0, "a")]), (1, [(9, "u"), (-9, "u")])]:
            with self.subTest(start=start, terms=terms):
                self.refused(Unsound, "a", 2, [still("u", 1), ("a", start, [terms, []])])

    def test_a_start_that_its_formula_makes_is_taken(self):
        for start, terms in [(0, []), (1, [(1, "u")]), (-4, [(1, "a")]), (6, [(2, "a"), (-6, "u")]),
                             (0, [(9, "a")]), (-99, [(-9, "u"), (-9, "u"), (-81, "u")])]:
            with self.subTest(start=start, terms=terms):
                book = Book(2, [("a", start, [terms, []]), still("u", 1)])
                self.assertEqual(book.start_of("a"), start)

    def test_only_the_formula_for_the_figure_nought_is_asked(self):
        self.assertEqual(Book(3, [("a", 5, [[(1, "a")], [], [(9, "a")]])]).start_of("a"), 5)

    def test_the_first_such_row_is_told(self):
        self.refused(Unsound, "b", 2, [still("a", 3), ("b", 1, [[], []]), ("c", 2, [[], []])])
        self.refused(Unsound, "c", 2, [still("a", 3), ("c", 2, [[], []]), ("b", 1, [[], []])])


class SeveralFaults(BookCase):

    UNSOUND = ("a", 1, [[], []])
    SHORT = ("b", 0, [[]])
    UNNAMED = ("C", 0, [[], []])

    def test_the_base_is_checked_first(self):
        self.refused(InvalidBase, 5, 5, [self.UNSOUND, self.SHORT, self.UNNAMED])

    def test_the_names_are_checked_before_the_formulas(self):
        self.refused(InvalidName, "C", 2, [self.UNSOUND, self.SHORT, self.UNNAMED])

    def test_the_formulas_are_checked_before_the_starts(self):
        self.refused(InvalidFormula, "b", 2, [self.UNSOUND, self.SHORT])
        self.refused(InvalidFormula, "b", 2, [self.UNSOUND, ("b", 0, [[(1, "x")], []])])

    def test_one_row_with_several_faults(self):
        self.refused(InvalidBase, 1, 1, [("AB", 1, [])])
        self.refused(InvalidName, "AB", 2, [("AB", 1, [])])
        self.refused(InvalidFormula, "a", 2, [("a", 1, [[]])])
        self.refused(InvalidFormula, "a", 2, [("a", 1, [[], [(1, "x")]])])


class Told(unittest.TestCase):

    def test_base_names_starts_and_formulas_are_as_passed(self):
        for base, rows in BOOKS + [place_book(4), sound_book(1, 3), (2, [])]:
            with self.subTest(base=base, rows=rows):
                book = Book(base, rows)
                self.assertEqual(book.base, base)
                self.assertEqual(book.names, [name for name, _, _ in rows])
                for name, start, formulas in rows:
                    self.assertEqual(book.start_of(name), start)
                    self.assertEqual(book.formulas_of(name), formulas)

    def test_terms_keep_their_sequence_their_noughts_and_their_names_twice(self):
        formulas = [[(0, "b"), (1, "a"), (0, "a")], [(2, "b"), (2, "b"), (-2, "b")]]
        book = Book(2, [("b", 0, [[], []]), ("a", 4, formulas)])
        self.assertEqual(book.formulas_of("a"), formulas)
        self.assertIs(type(book.formulas_of("a")[0]), list)
        self.assertIs(type(book.formulas_of("a")[0][0]), tuple)

    def test_names_are_in_their_sequence(self):
        self.assertEqual(Book(2, [still("z"), still("a"), still("m")]).names, ["z", "a", "m"])
        self.assertEqual(Book(4, []).names, [])

    def test_a_name_that_there_is_not_is_refused(self):
        for base, rows in (ONES, (3, [])):
            book = Book(base, rows)
            for name in ("x", "", "O", "oe", " "):
                for method in (book.start_of, book.formulas_of):
                    with self.subTest(name=name, method=method):
                        with self.assertRaises(InvalidName) as context:
                            method(name)
                        self.assertEqual(context.exception.value, name)
            self.assertEqual(book, Book(base, rows))

    def test_arguments_by_name(self):
        book = Book(rows=STERN[1], base=2)
        self.assertEqual(book, Book(*STERN))
        self.assertEqual(book.start_of(name="t"), 1)
        self.assertEqual(book.formulas_of(name="s"), STERN[1][0][2])
        with self.assertRaises(InvalidBase):
            Book(base=7, rows=[])

    def test_the_listed_methods_and_properties_stand_in_the_class(self):
        self.assertEqual(Book.__module__, "figurebooks.books")
        for name in ("__init__", "base", "names", "start_of", "formulas_of", "__eq__"):
            self.assertIn(name, vars(Book))
        self.assertIsInstance(vars(Book)["base"], property)
        self.assertIsInstance(vars(Book)["names"], property)


class Unchanging(unittest.TestCase):

    def test_what_was_passed_may_be_changed_afterwards(self):
        base, rows = copy.deepcopy(MIXED)
        book = Book(base, rows)
        for _, _, formulas in rows:
            for terms in formulas:
                terms.append((5, "q"))
            formulas.reverse()
            formulas.append([(1, "x")])
        rows.pop()
        rows[0] = ("y", 3, [])
        self.assertEqual(book, Book(*MIXED))
        self.assertEqual(book.names, ["q", "u", "z"])
        for name, start, formulas in MIXED[1]:
            self.assertEqual((book.start_of(name), book.formulas_of(name)), (start, formulas))

    def test_what_was_returned_may_be_changed_afterwards(self):
        book = Book(*MIXED)
        book.names.append("x")
        for name in book.names:
            formulas = book.formulas_of(name)
            for terms in formulas:
                terms.insert(0, (7, "u"))
            formulas.clear()
        self.assertEqual(book, Book(*MIXED))
        self.assertEqual(book.names, ["q", "u", "z"])
        self.assertEqual(book.formulas_of("q"), MIXED[1][0][2])

    def test_returned_lists_are_new_and_so_are_those_within(self):
        book = Book(*FOURS)
        self.assertIsNot(book.names, book.names)
        first, second = book.formulas_of("a"), book.formulas_of("a")
        self.assertIsNot(first, second)
        for one, other, passed in zip(first, second, FOURS[1][0][2]):
            self.assertIsNot(one, other)
            self.assertIsNot(one, passed)

    def test_lists_that_were_passed_several_times_stay_apart(self):
        terms = [(1, "a")]
        book = Book(2, [("a", 1, [terms, terms])])
        book.formulas_of("a")[0].append((2, "a"))
        terms.append((3, "a"))
        self.assertEqual(book.formulas_of("a"), [[(1, "a")], [(1, "a")]])

    def test_nothing_that_was_passed_is_modified(self):
        for base, rows in BOOKS:
            before = copy.deepcopy(rows)
            book = Book(base, rows)
            for name in book.names:
                book.start_of(name)
                book.formulas_of(name)
            self.assertEqual(rows, before)

    def test_base_and_names_cannot_be_assigned(self):
        book = Book(*ONES)
        for name, worth in (("base", 3), ("names", [])):
            with self.assertRaises(AttributeError):
                setattr(book, name, worth)
        self.assertEqual(book, Book(*ONES))


class Equality(EqualityCase):

    def test_books_made_of_the_same_are_equal(self):
        for base, rows in BOOKS + [(2, []), (3, [])]:
            self.assert_equal(Book(base, rows), Book(base, copy.deepcopy(rows)))

    def test_books_made_of_other_things_are_not(self):
        plain = [("a", 0, [[(1, "a")], [(1, "a"), (2, "b")]]), ("b", 0, [[], []])]
        first, second = plain
        others = [
            [second, first],
            [second],
            [],
            [first, second, ("c", 0, [[], []])],
            [("c", 0, [[(1, "c")], [(1, "c"), (2, "b")]]), second],
            [("a", 1, first[2]), second],
            [("a", 0, [[(1, "a")], [(2, "b"), (1, "a")]]), second],
            [("a", 0, [[(1, "a")], [(1, "a"), (1, "b"), (1, "b")]]), second],
            [("a", 0, [[(1, "a"), (0, "b")], [(1, "a"), (2, "b")]]), second],
            [("a", 0, [[(1, "a")], [(1, "a"), (2, "a")]]), second],
            [("a", 0, [[(1, "a")], [(1, "a"), (-2, "b")]]), second],
            [("a", 0, [[(1, "a"), (1, "a")], [(2, "b")]]), second],
        ]
        for rows in others:
            with self.subTest(rows):
                self.assert_unequal(Book(2, plain), Book(2, rows))

    def test_books_whose_rows_have_other_names_are_not(self):
        self.assert_unequal(Book(2, [("a", 0, [[], []])]), Book(2, [("b", 0, [[], []])]))

    def test_books_of_other_bases_are_not(self):
        self.assert_unequal(Book(2, []), Book(3, []))
        self.assert_unequal(Book(3, [still("a", 1, 3)]), Book(4, [still("a", 1, 4)]))

    def test_books_whose_rows_have_the_same_values_may_be_unequal(self):
        self.assert_unequal(Book(2, [("a", 0, [[], []])]), Book(2, [still("a", 0)]))

    def test_a_book_is_not_equal_to_anything_else(self):
        book = Book(*ONES)
        for thing in (None, 0, 2, "", "o", [], (), {}, ONES, list(ONES), ONES[1], book.names, Book, object()):
            with self.subTest(thing):
                self.assert_unequal(book, thing)
        self.assertFalse(book == Like())


if __name__ == "__main__":
    unittest.main()

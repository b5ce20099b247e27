"""Promises [1] (reading), [2], [4] and [5] and the interface of `Row` and `row_named`."""

import copy
import unittest
from math import comb

from figurebooks import rows as rows_module
from figurebooks.books import Book
from figurebooks.errors import InvalidName, InvalidNumber
from figurebooks.rows import Row, row_named
from tests.equality import EqualityCase, Like
from tests.examples import ExampleCase
from tests.samples import BOOKS, FOURS, MIXED, ONES, STERN
from tests.samples import place_book, sound_book, sum_of, telling_places, value_of

# Word for word as in the interface.
EXAMPLE = """
>>> from figurebooks.books import Book
>>> from figurebooks.rows import Row, row_named
>>> ones = Book(2, [("o", 0, [[(1, "o")], [(1, "o"), (1, "e")]]), ("e", 1, [[(1, "e")], [(1, "e")]])])
>>> stern = Book(2, [("s", 0, [[(1, "s")], [(1, "s"), (1, "t")]]), ("t", 1, [[(1, "s"), (1, "t")], [(1, "t")]])])
>>> [row_named(ones, "o").value_at(13), row_named(stern, "s").first_values(10), row_named(stern, "t").first_values(5), Row(ones, [2, 1]).value_at(7), ones.names, ones.start_of("e"), ones.formulas_of("o")[1]]
[3, [0, 1, 1, 2, 1, 3, 2, 3, 1, 4], [1, 1, 2, 1, 3], 7, ['o', 'e'], 1, [(1, 'o'), (1, 'e')]]
"""

NEGATIVE = (-1, -2, -7, -100, -10 ** 15, -10 ** 30, -10 ** 60)


class Example(ExampleCase):

    def test_the_example_of_the_interface(self):
        self.assert_example(EXAMPLE)


class Construction(unittest.TestCase):

    def test_another_number_of_coefficients_is_refused(self):
        for book in (Book(2, []), Book(*ONES), Book(*MIXED)):
            for number in range(8):
                with self.subTest(names=book.names, number=number):
                    if number == len(book.names):
                        self.assertEqual(Row(book, [4] * number).coefficients, [4] * number)
                        continue
                    with self.assertRaises(InvalidNumber) as context:
                        Row(book, [4] * number)
                    self.assertEqual(context.exception.value, number)

    def test_book_and_coefficients(self):
        book = Book(*MIXED)
        row = Row(book, [99, -99, 0])
        self.assertEqual(row.book, Book(*MIXED))
        self.assertEqual(row.coefficients, [99, -99, 0])
        self.assertEqual(Row(Book(4, []), []).coefficients, [])

    def test_arguments_by_name(self):
        book = Book(*STERN)
        row = Row(coefficients=[0, 1], book=book)
        self.assertEqual(row, row_named(name="t", book=book))
        self.assertEqual(row.value_at(place=4), 3)
        self.assertEqual(row.first_values(number=3), [1, 1, 2])
        with self.assertRaises(InvalidNumber):
            row.value_at(place=-3)
        with self.assertRaises(InvalidName):
            row_named(book=book, name="x")

    def test_what_was_passed_may_be_changed_afterwards(self):
        book, coefficients = Book(*ONES), [3, 4]
        row = Row(book, coefficients)
        coefficients[0] = 50
        coefficients.append(1)
        self.assertEqual(row.coefficients, [3, 4])
        self.assertEqual(row.value_at(3), 10)
        self.assertEqual(row, Row(book, [3, 4]))

    def test_what_was_returned_may_be_changed_afterwards(self):
        row = Row(Book(*ONES), [3, 4])
        row.coefficients.append(1)
        row.coefficients[0] = 50
        row.first_values(4).reverse()
        row.book.names.clear()
        self.assertIsNot(row.coefficients, row.coefficients)
        self.assertIsNot(row.first_values(4), row.first_values(4))
        self.assertEqual(row, Row(Book(*ONES), [3, 4]))
        self.assertEqual(row.first_values(4), [4, 7, 7, 10])

    def test_nothing_that_was_passed_is_modified(self):
        book, coefficients = Book(*MIXED), [3, -4, 5]
        row = Row(book, coefficients)
        row.value_at(10 ** 30)
        row.first_values(50)
        row_named(book, "z").first_values(20)
        self.assertEqual(coefficients, [3, -4, 5])
        self.assertEqual(book, Book(*MIXED))

    def test_the_book_may_lose_its_rows_to_the_caller_and_the_row_stays(self):
        base, rows = copy.deepcopy(FOURS)
        row = Row(Book(base, rows), [1, 2, 3])
        before = row.first_values(30)
        for _, _, formulas in rows:
            formulas[1].append((9, "a"))
        self.assertEqual(row.first_values(30), before)
        self.assertEqual(row.book, Book(*FOURS))

    def test_book_and_coefficients_cannot_be_assigned(self):
        row = Row(Book(*ONES), [1, 2])
        for name, worth in (("book", Book(2, [])), ("coefficients", [0, 0])):
            with self.assertRaises(AttributeError):
                setattr(row, name, worth)
        self.assertEqual(row, Row(Book(*ONES), [1, 2]))

    def test_the_listed_names_are_defined_in_their_file(self):
        self.assertEqual(Row.__module__, "figurebooks.rows")
        self.assertEqual(rows_module.row_named.__module__, "figurebooks.rows")
        for name in ("__init__", "book", "coefficients", "value_at", "first_values", "__eq__"):
            self.assertIn(name, vars(Row))
        self.assertIsInstance(vars(Row)["book"], property)
        self.assertIsInstance(vars(Row)["coefficients"], property)


class Named(unittest.TestCase):

    def test_the_row_with_a_name_has_this_one_coefficient(self):
        for base, rows in BOOKS:
            book = Book(base, rows)
            for index, name in enumerate(book.names):
                row = row_named(book, name)
                self.assertEqual(row.coefficients, [int(k == index) for k in range(len(rows))])
                self.assertEqual(row.book, book)
                self.assertEqual(row.value_at(0), book.start_of(name))

    def test_a_name_that_there_is_not_is_refused(self):
        for book in (Book(*ONES), Book(3, [])):
            for name in ("x", "", "O", "oe", "o ", "~"):
                with self.subTest(name=name):
                    with self.assertRaises(InvalidName) as context:
                        row_named(book, name)
                    self.assertEqual(context.exception.value, name)


class NumberCheck(unittest.TestCase):

    def test_negative_places_and_numbers_are_refused(self):
        for row in (Row(Book(*ONES), [1, 2]), Row(Book(3, []), [])):
            for method in (row.value_at, row.first_values):
                for number in NEGATIVE:
                    with self.subTest(method=method, number=number):
                        with self.assertRaises(InvalidNumber) as context:
                            method(number)
                        self.assertEqual(context.exception.value, number)

    def test_an_error_changes_nothing(self):
        row = Row(Book(*ONES), [1, 2])
        self.assertRaises(InvalidNumber, row.value_at, -1)
        self.assertRaises(InvalidNumber, row.first_values, -1)
        self.assertEqual(row, Row(Book(*ONES), [1, 2]))
        self.assertEqual(row.first_values(4), [2, 3, 3, 4])


class Values(unittest.TestCase):

    def test_named_rows_at_telling_places(self):
        for base, rows in BOOKS + [place_book(3)]:
            book = Book(base, rows)
            for name in book.names:
                row = row_named(book, name)
                for place in telling_places(base):
                    with self.subTest(base=base, name=name, place=place):
                        self.assertEqual(row.value_at(place), value_of(base, rows, name, place))

    def test_sums_of_rows_at_telling_places(self):
        for base, rows in BOOKS:
            book = Book(base, rows)
            for coefficients in ([1, 1, 1], [99, -99, 5], [0, 0, 0], [-1, 0, 2]):
                told = coefficients[:len(rows)]
                row = Row(book, told)
                for place in telling_places(base):
                    with self.subTest(base=base, coefficients=told, place=place):
                        self.assertEqual(row.value_at(place), sum_of(base, rows, told, place))

    def test_many_books(self):
        for seed in range(12):
            base, rows = sound_book(seed, 2 + seed % 3)
            row = Row(Book(base, rows), [3, -1, 0, 2, 7])
            for place in list(range(40)) + [base ** 40 - 1, base ** 40, 10 ** 29 + seed]:
                with self.subTest(seed=seed, place=place):
                    self.assertEqual(row.value_at(place), sum_of(base, rows, [3, -1, 0, 2, 7], place))

    def test_first_values(self):
        for base, rows in BOOKS:
            row = Row(Book(base, rows), [2, -3, 5][:len(rows)])
            expected = [sum_of(base, rows, row.coefficients, place) for place in range(100)]
            for number in list(range(20)) + [63, 64, 65, 81, 100]:
                with self.subTest(base=base, number=number):
                    self.assertEqual(row.first_values(number), expected[:number])

    def test_no_first_values(self):
        for base, rows in BOOKS + [(2, [])]:
            self.assertEqual(Row(Book(base, rows), [1] * len(rows)).first_values(0), [])

    def test_a_row_of_a_book_with_no_rows_is_always_nought(self):
        for base in (2, 3, 4):
            row = Row(Book(base, []), [])
            self.assertEqual(row.first_values(6), [0] * 6)
            for place in telling_places(base):
                self.assertEqual(row.value_at(place), 0)

    def test_the_value_at_nought_is_the_start(self):
        self.assertEqual(row_named(Book(*MIXED), "q").value_at(0), -7)
        self.assertEqual(row_named(Book(*MIXED), "q").first_values(1), [-7])
        self.assertEqual(Row(Book(*FOURS), [1, 10, 20]).value_at(0), 2 + 10 - 60)


class Meanings(unittest.TestCase):

    def test_the_place_itself(self):
        for base in (2, 3, 4):
            row = row_named(Book(*place_book(base)), "p")
            self.assertEqual(row.first_values(100), list(range(100)))
            for place in telling_places(base) + [10 ** 60 + 7]:
                self.assertEqual(row.value_at(place), place)

    def test_how_many_ones(self):
        row = row_named(Book(*ONES), "o")
        self.assertEqual(row.first_values(100), [bin(place).count("1") for place in range(100)])
        for place in telling_places(2):
            self.assertEqual(row.value_at(place), bin(place).count("1"))

    def test_sums_of_figures(self):
        for base in (2, 3, 4):
            formulas = [[(1, "f"), (figure, "u")] for figure in range(base)]
            book = Book(base, [("u", 1, [[(1, "u")]] * base), ("f", 0, formulas)])
            row = row_named(book, "f")
            for exponent in range(60):
                self.assertEqual(row.value_at(base ** exponent - 1), exponent * (base - 1))
                self.assertEqual(row.value_at(base ** exponent + base ** 61), 2)

    def test_stern_counts_the_ways_to_write_a_number_with_each_power_of_two_at_most_twice(self):
        ways = [1] + [0] * 199
        for power in (1, 2, 4, 8, 16, 32, 64, 128):
            ways = [sum(ways[n - k * power] for k in range(3) if n >= k * power) for n in range(200)]
        row = row_named(Book(*STERN), "s")
        self.assertEqual(row.first_values(201), [0] + ways)

    def test_stern_neighbours_run_through_the_fractions_in_one_sequence(self):
        first, second = row_named(Book(*STERN), "s"), row_named(Book(*STERN), "t")
        for place in [1, 2, 3, 10, 2 ** 90, 3 ** 60, 10 ** 29, 123456789012345678901234567890]:
            over, under = first.value_at(place), first.value_at(place + 1)
            self.assertEqual(second.value_at(place), under)
            # The next fraction after a / b is b / (a + b - 2 * (a mod b)).
            self.assertEqual(first.value_at(place + 2), over + under - 2 * (over % under))

    def test_stern_holds_the_fibonacci_numbers(self):
        row = row_named(Book(*STERN), "s")
        low, high = 0, 1
        for exponent in range(100):
            self.assertEqual(row.value_at((2 ** exponent - (-1) ** exponent) // 3), low)
            low, high = high, low + high

    def test_how_many_entries_of_a_row_of_pascals_triangle_a_prime_does_not_divide(self):
        for base in (2, 3):
            formulas = [[(figure + 1, "g")] for figure in range(base)]
            row = row_named(Book(base, [("g", 1, formulas)]), "g")
            expected = [sum(comb(n, k) % base != 0 for k in range(n + 1)) for n in range(60)]
            self.assertEqual(row.first_values(60), expected)
            self.assertEqual(row.value_at(base ** 60 - 1), base ** 60)

    def test_which_places_are_powers(self):
        formulas = [[(1, "i")], [(1, "z")], [], []]
        book = Book(4, [("i", 0, formulas), ("z", 1, [[(1, "z")], [], [], []])])
        row = row_named(book, "i")
        powers = [4 ** exponent for exponent in range(50)]
        for place in telling_places(4):
            self.assertEqual(row.value_at(place), int(place in powers))


class Equality(EqualityCase):

    def test_rows_with_equal_books_and_coefficients_are_equal(self):
        for base, rows in BOOKS + [(2, [])]:
            told = [4, -2, 0][:len(rows)]
            self.assert_equal(Row(Book(base, rows), told), Row(Book(base, copy.deepcopy(rows)), list(told)))
        self.assert_equal(row_named(Book(*ONES), "e"), Row(Book(*ONES), [0, 1]))

    def test_rows_with_other_coefficients_are_not(self):
        book = Book(*ONES)
        for coefficients in ([1, 3], [2, 2], [2, 1], [-1, -2], [0, 0]):
            self.assert_unequal(Row(book, [1, 2]), Row(book, coefficients))

    def test_rows_of_other_books_are_not_though_their_values_are_equal(self):
        turned = Book(2, [ONES[1][1], ONES[1][0]])
        self.assert_unequal(row_named(Book(*ONES), "o"), row_named(turned, "o"))
        self.assert_unequal(Row(Book(*ONES), [1, 1]), Row(turned, [1, 1]))
        self.assert_unequal(Row(Book(2, []), []), Row(Book(3, []), []))
        self.assert_unequal(Row(Book(2, []), []), Row(Book(*ONES), [0, 0]))
        self.assert_unequal(Row(Book(*ONES), [1, 2]), Row(Book(*STERN), [1, 2]))

    def test_a_row_is_not_equal_to_anything_else(self):
        book = Book(*ONES)
        row = Row(book, [1, 2])
        for thing in (None, 0, "", "o", [], (), {}, [1, 2], (book, [1, 2]), book, Row, object()):
            with self.subTest(thing):
                self.assert_unequal(row, thing)
        self.assert_unequal(Row(Book(2, []), []), Book(2, []))
        self.assertFalse(row == Like())


if __name__ == "__main__":
    unittest.main()

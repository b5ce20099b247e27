"""The interface of `relations`, and promises [2], [3] and [5] for it."""

import copy
import unittest
from itertools import combinations, product
from math import gcd

from figurebooks import relations as relations_module
from figurebooks.books import Book
from figurebooks.errors import UnlikeBases
from figurebooks.forms import plain, rank_of
from figurebooks.relations import relations
from figurebooks.rows import Row, row_named
from figurebooks.totals import totals_of
from tests.bases import BaseCase, nothing
from tests.references import front, hermite, minus, rank, walked_sum
from tests.samples import BOOKS, ONES, STERN
from tests.samples import chain_book, coarse_book, place_book, ring_book, telling_places
from tests.writings import renamed, row_of, turned, with_idle, writings_of


def minors(lists, size):
    """Return the determinants of all square choices of columns of so many lists."""
    return [determinant([[values[k] for k in columns] for values in lists])
            for columns in combinations(range(len(lists[0])), size)]


def determinant(square):
    if not square:
        return 1
    return sum((-1) ** k * square[0][k] * determinant([line[:k] + line[k + 1:] for line in square[1:]])
               for k in range(len(square)))


class RelationCase(unittest.TestCase):

    def assert_relations(self, rows, number):
        """Assert all that is said of relations, of rows that the first values tell."""
        found = relations(rows)
        lists = [row.first_values(number) for row in rows]
        self.assert_noughts(rows, lists, found)
        self.assert_plain_lists(found)
        # As many as can be, and no sum of them has a divisor that they themselves have not.
        self.assertEqual(len(found), len(rows) - rank(lists))
        if found:
            self.assertEqual(gcd(*minors(found, len(found))), 1)
        return found

    def assert_noughts(self, rows, lists, found):
        """Assert that the products with the rows add up to 0, near and far."""
        for multiples in found:
            self.assertEqual(len(multiples), len(rows))
            for values in zip(*lists):
                self.assertEqual(sum(m * value for m, value in zip(multiples, values)), 0)
            for place in telling_places(rows[0].book.base)[-30:]:
                self.assertEqual(sum(m * row.value_at(place) for m, row in zip(multiples, rows)), 0)

    def assert_plain_lists(self, found):
        """Assert the form of the lists."""
        self.assertEqual(found, hermite(found))
        fronts = [front(multiples) for multiples in found]
        self.assertEqual(fronts, sorted(set(fronts)))
        for index, at in enumerate(fronts):
            self.assertGreater(found[index][at], 0)
            for above in found[:index]:
                self.assertIn(above[at], range(found[index][at]))


class ByHand(RelationCase):

    def multiples(self, base, rows, factors):
        book = Book(base, rows)
        first = [1, 2, 3][:len(rows)]
        return [Row(book, [factor * number for number in first]) for factor in factors]

    def assert_multiples(self, factors, expected):
        """Assert the relations of multiples of one row, for rows of several books."""
        for base, rows in BOOKS + [place_book(3)]:
            told = self.multiples(base, rows, factors)
            with self.subTest(base=base, rows=rows, factors=factors):
                self.assertEqual(relations(told), expected)
                self.assertEqual(self.assert_relations(told, 30), expected)

    def test_multiples_of_one_row(self):
        self.assert_multiples([1], [])
        self.assert_multiples([1, 1], [[1, -1]])
        self.assert_multiples([1, -1], [[1, 1]])
        self.assert_multiples([2, 3], [[3, -2]])
        self.assert_multiples([3, 2], [[2, -3]])
        self.assert_multiples([-6, 4], [[2, 3]])
        self.assert_multiples([5, 5, 5], [[1, 0, -1], [0, 1, -1]])
        self.assert_multiples([7, 0], [[0, 1]])
        self.assert_multiples([0, 7], [[1, 0]])

    def test_multiples_with_common_divisors(self):
        self.assert_multiples([4, 6, 9], [[3, 1, -2], [0, 3, -2]])
        self.assert_multiples([9, 6, 4], [[2, 1, -6], [0, 2, -3]])
        self.assert_multiples([6, 10, 15], [[5, 0, -2], [0, 3, -2]])
        self.assert_multiples([6, -10, 15], [[5, 0, -2], [0, 3, 2]])
        self.assert_multiples([2, 4, 8, 16], [[2, 1, 1, -1], [0, 2, 1, -1], [0, 0, 2, -1]])

    def test_sums_of_two_rows(self):
        for base, rows in BOOKS:
            book = Book(base, rows)
            first, second = row_named(book, book.names[0]), row_named(book, book.names[1])
            both = Row(book, [1, 1, 0][:len(rows)])
            self.assertEqual(relations([first, second, both]), [[1, 1, -1]])
            self.assertEqual(relations([both, first, second]), [[1, -1, -1]])
            self.assertEqual(relations([first, second]), [])
            less = Row(book, [4, -6, 0][:len(rows)])
            self.assertEqual(relations([first, less, second]), [[4, -1, -6]])
            self.assertEqual(relations([less, first, second]), [[1, -4, 6]])
            self.assertEqual(relations([less, both, first, second]), [[1, 0, -4, 6], [0, 1, -1, -1]])
            double = Row(book, [2, 4, 0][:len(rows)])
            self.assertEqual(relations([first, double, second, both]), [[1, 0, 1, -1], [0, 1, -2, -2]])

    def test_rows_that_are_always_nought(self):
        for base in (2, 3, 4):
            none, row = nothing(base), row_named(Book(*place_book(base)), "p")
            other = Row(Book(*place_book(base)), [0, 0])
            self.assertEqual(relations([none]), [[1]])
            self.assertEqual(relations([none, other]), [[1, 0], [0, 1]])
            self.assertEqual(relations([none] * 4), [[int(k == j) for k in range(4)] for j in range(4)])
            self.assertEqual(relations([row, none]), [[0, 1]])
            self.assertEqual(relations([none, row]), [[1, 0]])
            self.assertEqual(relations([row, none, row, other]), [[1, 0, -1, 0], [0, 1, 0, 0], [0, 0, 0, 1]])

    def test_no_relation_at_all(self):
        for base, rows in BOOKS:
            book = Book(base, rows)
            named = [row_named(book, name) for name in book.names]
            self.assertEqual(relations(named), [])
            self.assertEqual(relations(named[:1]), [])
            self.assertEqual(relations([row_of(*chain_book(base, 4), [0, 0, 1, 0])] + named), [])
        self.assertEqual(relations([row_of(*chain_book(3, 4), [int(k == j) for k in range(4)]) for j in range(4)]), [])

    def test_rows_that_differ_only_far_out(self):
        # Rows 1, 1 and 2 times the place, and behind it what is 0 up to base ** 5 - 1.
        for base in (2, 3, 4):
            rows = renamed(*place_book(base), [1, 0])[1] + chain_book(base, 6)[1]
            book = Book(base, rows)
            ends = [0] * 5
            one, other = Row(book, [1, 0, 0] + ends), Row(book, [1, 0, 1] + ends)
            self.assertEqual(relations([one, other]), [])
            self.assertEqual(relations([one, other, Row(book, [2, 0, 0] + ends)]), [[2, 0, -1]])
            self.assertEqual(relations([one, other, Row(book, [2, 0, 1] + ends)]), [[1, 1, -1]])
            self.assertEqual(relations([one, other, Row(book, [2, 0, 3] + ends)]), [[1, -3, 1]])
        ring, chain = row_of(*ring_book(2, 6), [1] + [0] * 5), row_of(*chain_book(2, 6), [1] + [0] * 5)
        self.assertEqual(relations([ring, chain]), [])
        self.assertEqual(relations([ring, plain(ring), chain]), [[1, -1, 0]])


class ByWalking(RelationCase):

    def test_sums_of_rows_of_one_book(self):
        many = [0] * 5
        for seed in range(120):
            base, rows = coarse_book(seed % 30, 2 + seed % 3, 3)
            factors = [[seed * (7 * k + 3) % 11 - 5 for k in range(3 * j, 3 * j + 3)] for j in range(4)]
            told = [row_of(base, rows, coefficients) for coefficients in factors[:1 + seed % 4]]
            many[len(self.assert_relations(told, base ** 2 + base))] += 1
        self.assertGreater(min(many[:3]), 3)

    def test_rows_of_unlike_books(self):
        for seed in range(30):
            base, rows = coarse_book(seed, 2 + seed % 3, 3)
            one, other = [seed % 5 - 2, 3, 4], [6, seed % 7, -9]
            both = [4 * x - 6 * y for x, y in zip(one, other)]
            told = [row_of(*writings_of(base, rows, one)[3]), row_of(*turned(base, rows, other)),
                    row_of(*with_idle(base, rows, both)), row_of(*renamed(base, rows, other))]
            with self.subTest(seed):
                found = self.assert_relations(told, base ** 2 + base)
                self.assertGreaterEqual(len(found), 2)
                self.assert_relations([told[0], told[1], row_named(Book(*place_book(base)), "p")], base ** 4)

    def test_books_of_the_same_base(self):
        for base, rows in BOOKS:
            told = [row_of(*writing) for writing in writings_of(base, rows, [2, 3, 4][:len(rows)])]
            self.assert_relations(told[:4], 60)
            self.assertEqual(relations(told[:2]), [[1, -1]])
        self.assert_relations([row_of(*ONES, [1, 0]), row_of(*ONES, [0, 1]), row_of(*STERN, [1, 0])], 60)

    def test_all_small_lists_that_give_nought_are_sums_of_them(self):
        for seed in range(12):
            base, rows = coarse_book(seed, 2 + seed % 3, 2)
            factors = [[seed % 4 + 1, 2], [3, -seed % 5], [2, 6]]
            told = [row_of(base, rows, coefficients) for coefficients in factors]
            found = relations(told)
            lists = [walked_sum(base, rows, coefficients, base + 1) for coefficients in factors]
            for numbers in product(range(-12, 13), repeat=3):
                if not any(sum(n * value for n, value in zip(numbers, values)) for values in zip(*lists)):
                    self.assertEqual(self.remainder(numbers, found), [0, 0, 0])

    def remainder(self, numbers, found):
        for multiples in found:
            at = front(multiples)
            numbers = minus(numbers, numbers[at] // multiples[at], multiples)
        return list(numbers)

    def test_rows_and_their_totals(self):
        row = row_named(Book(*place_book(3)), "u")
        place, pairs = totals_of(row), totals_of(totals_of(row))
        squares = Row(pairs.book, [2 * k for k in pairs.coefficients])
        self.assertEqual(relations([row, place, pairs]), [])
        self.assertEqual(relations([squares, pairs, place]), [[1, -2, 0]])
        self.assertEqual(relations([place, row_named(Book(*place_book(3)), "p")]), [[1, -1]])

    def test_rows_of_great_rank(self):
        row = row_of(*chain_book(2, 6, factor=3, last_factor=2), [1, 0, 0, 0, 0, 0])
        first, second = totals_of(row), totals_of(totals_of(row))
        self.assertGreater(rank_of(second), 10)
        self.assertEqual(relations([first, second, plain(second), Row(first.book, [0] * rank_of(first))]),
                         [[0, 1, -1, 0], [0, 0, 0, 1]])


class BaseCheck(BaseCase):

    def test_lists_with_rows_of_unlike_bases(self):
        self.assert_base_check_of_lists(relations)


class Arguments(unittest.TestCase):

    def test_arguments_by_name(self):
        row = row_named(Book(*STERN), "s")
        self.assertEqual(relations(rows=[row, row]), [[1, -1]])
        with self.assertRaises(UnlikeBases) as context:
            relations(rows=[row, nothing(4)])
        self.assertEqual(context.exception.value, (2, 4))

    def test_lists_of_other_lengths(self):
        row = Row(Book(*ONES), [1, 0])
        self.assertEqual(relations([]), [])
        self.assertEqual(relations([row] * 6), [[int(k == j) - int(k == 5) for k in range(6)] for j in range(5)])

    def test_nothing_that_was_passed_is_modified(self):
        for base, rows in copy.deepcopy(BOOKS):
            one, other = [4, 6, 9][:len(rows)], [8, 12, 18][:len(rows)]
            told = [row_of(base, rows, one), row_of(base, rows, other)]
            same = list(told)
            self.assertEqual(relations(told), [[2, -1]])
            self.assertEqual(len(told), 2)
            self.assertTrue(told[0] is same[0] and told[1] is same[1])
            self.assertEqual(told, [row_of(base, rows, one), row_of(base, rows, other)])

    def test_what_was_returned_may_be_changed_and_passed_on(self):
        row = Row(Book(*ONES), [1, 0])
        rows = [Row(Book(*ONES), [2, 4]), Row(Book(*ONES), [3, 6])]
        found = relations(rows)
        self.assertEqual(Row(row.book, found[0]).coefficients, [3, -2])
        found[0].append(5)
        found.append([])
        self.assertEqual(relations(rows), [[3, -2]])
        self.assertIsNot(relations(rows)[0], relations(rows)[0])

    def test_the_listed_function_is_defined_in_its_file(self):
        self.assertEqual(relations_module.relations.__module__, "figurebooks.relations")


if __name__ == "__main__":
    unittest.main()

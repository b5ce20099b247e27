"""Promises [6] and [7] and the interface of `plain`, `rank_of` and `nodes_of`."""

import copy
import unittest

from figurebooks import forms
from figurebooks.books import Book
from figurebooks.forms import nodes_of, plain, rank_of
from figurebooks.rows import Row, row_named
from tests.examples import ExampleCase
from tests.references import LETTERS, hermite, reference_form, walked_sum
from tests.samples import BOOKS, FOURS, MIXED, ONES, STERN
from tests.samples import chain_book, coarse_book, coarse_coefficients, place_book, ring_book
from tests.samples import sound_book, telling_places
from tests.writings import row_of, with_idle, writings_of

# Of the example in the interface what is of this file, word for word.
EXAMPLE = """
>>> from figurebooks.books import Book
>>> from figurebooks.forms import nodes_of, plain, rank_of
>>> from figurebooks.rows import row_named
>>> ones = Book(2, [("o", 0, [[(1, "o")], [(1, "o"), (1, "e")]]), ("e", 1, [[(1, "e")], [(1, "e")]])])
>>> row = row_named(ones, "o")
>>> [nodes_of(row), rank_of(row), plain(row).coefficients, plain(row).book.formulas_of("a"), plain(row).book.formulas_of("b")]
[[0, 1], 2, [0, 1], [[(1, 'a')], [(-1, 'b')]], [[(1, 'b')], [(1, 'a'), (2, 'b')]]]
"""

COEFFICIENTS = [[1, 0, 0], [0, 1, 0], [0, 0, 1], [2, 4, 6], [3, -1, 5], [99, -99, 98], [-1, 0, 0]]

# Always 1, and 0 but at place 0.
UNITS = (3, [("e", 1, [[(1, "e")]] * 3), ("z", 1, [[(1, "z")], [], []])])


class FormCase(unittest.TestCase):

    def assert_form(self, base, rows, coefficients):
        """Assert that all three functions tell what is worked out by walking."""
        nodes, form, multiples = reference_form(base, rows, coefficients)
        row = row_of(base, rows, coefficients)
        self.assertEqual(plain(row), Row(Book(base, form), multiples))
        self.assertEqual(nodes_of(row), nodes)
        self.assertEqual(rank_of(row), len(nodes))

    def assert_plain(self, row, number):
        """Assert what [7] says of a plain row, of which only the first values can be walked."""
        found, nodes = plain(row), nodes_of(row)
        self.assertIsInstance(found, Row)
        self.assertEqual(found.book.base, row.book.base)
        self.assertEqual(found.book.names, list(LETTERS[:len(nodes)]))
        self.assertEqual(rank_of(row), len(nodes))
        self.assertLessEqual(len(nodes), len(row.book.names))
        self.assertEqual(nodes, sorted(set(nodes)))
        self.assertEqual(found.first_values(number), row.first_values(number))
        for place in telling_places(row.book.base):
            self.assertEqual(found.value_at(place), row.value_at(place))
        self.assert_nodes(found.book, nodes, number)
        self.assert_terms(found.book)

    def assert_nodes(self, book, nodes, number):
        """Assert what the rows of a plain book are at the nodes and at lesser places."""
        for index, (name, node) in enumerate(zip(book.names, nodes)):
            row = row_named(book, name)
            self.assertGreater(row.value_at(node), 0)
            self.assertEqual(row.first_values(min(node, number)), [0] * min(node, number))
            for lesser in nodes[:index]:
                self.assertEqual(row.value_at(lesser), 0)
            for above in book.names[:index]:
                self.assertIn(row_named(book, above).value_at(node), range(row.value_at(node)))

    def assert_terms(self, book):
        """Assert that the terms of all formulas ascend by name and have no coefficients 0."""
        for name in book.names:
            for terms in book.formulas_of(name):
                self.assertTrue(all(type(term) is tuple for term in terms))
                names = [other for _, other in terms]
                self.assertEqual(names, sorted(set(names)))
                self.assertNotIn(0, [factor for factor, _ in terms])


class Example(ExampleCase):

    def test_the_example_of_the_interface(self):
        self.assert_example(EXAMPLE)


class ByHand(FormCase):

    def test_a_row_that_is_always_one_number(self):
        for number in (1, 2, 99, -1, -2, -99):
            row = Row(Book(*UNITS), [number, 0])
            told = Book(3, [("a", abs(number), [[(1, "a")]] * 3)])
            self.assertEqual(plain(row), Row(told, [1 if number > 0 else -1]))
            self.assertEqual((nodes_of(row), rank_of(row)), ([0], 1))

    def test_the_place_itself_and_its_multiples(self):
        # The kin of the place itself are its multiples and those of 1; a is 1 less the place.
        for number in (1, 2, 6, 99):
            row = Row(Book(*place_book(2)), [number, 0])
            told = Book(2, [
                ("a", number, [[(1, "a"), (-1, "b")], [(-2, "b")]]),
                ("b", 0, [[(2, "b")], [(1, "a"), (3, "b")]]),
            ])
            self.assertEqual(plain(row), Row(told, [0, 1]))
            self.assertEqual(plain(Row(Book(*place_book(2)), [-number, 0])), Row(told, [0, -1]))
            self.assertEqual((nodes_of(row), rank_of(row)), ([0, 1], 2))

    def test_a_row_whose_part_adds_an_even_number_keeps_even_numbers_only(self):
        # Twice the ones of the place: 1 itself is no kin, only 2 is.
        formulas = [[(1, "o")], [(1, "o"), (2, "e")]]
        row = Row(Book(2, [("o", 0, formulas), ("e", 1, [[(1, "e")]] * 2)]), [1, 0])
        told = Book(2, [
            ("a", 2, [[(1, "a")], [(-1, "b")]]),
            ("b", 0, [[(1, "b")], [(1, "a"), (2, "b")]]),
        ])
        self.assertEqual(plain(row), Row(told, [0, 1]))
        self.assertEqual(plain(Row(Book(*ONES), [2, 0])), Row(told, [0, 1]))
        self.assertNotEqual(plain(Row(Book(*ONES), [1, 0])).book, told)

    def test_a_row_that_is_even_at_first_but_not_for_ever(self):
        # 4 at place 0, 6 elsewhere: the kin are the sums of this row and of what is always 6.
        row = Row(Book(*UNITS), [6, -2])
        told = Book(3, [
            ("a", 2, [[(1, "a")], [], []]),
            ("b", 0, [[(1, "b")], [(3, "a"), (1, "b")], [(3, "a"), (1, "b")]]),
        ])
        self.assertEqual(plain(row), Row(told, [2, 1]))
        self.assertEqual(nodes_of(row), [0, 1])
        self.assertEqual(row_named(told, "b").first_values(4), [0, 6, 6, 6])

    def test_a_row_above_is_less_at_a_node_than_the_row_there(self):
        # 3 at place 0, and 5 where all figures are 0 but one 1: its kin are all sums of it and 5 at place 0.
        book = Book(3, [("h", 3, [[(1, "h")], [(5, "z")], []]), ("z", 1, [[(1, "z")], [], []])])
        row = Row(book, [1, 0])
        told = Book(3, [
            ("a", 1, [[(1, "a")], [(10, "a"), (-4, "b")], []]),
            ("b", 0, [[(1, "b")], [(25, "a"), (-10, "b")], []]),
        ])
        self.assertEqual(plain(row), Row(told, [3, -1]))
        self.assertEqual(row_named(told, "a").first_values(2), [1, 10])
        self.assertEqual(row_named(told, "b").first_values(2), [0, 25])
        self.assertEqual((nodes_of(row), rank_of(row)), ([0, 1], 2))


class ByWalking(FormCase):

    def test_books_and_sums_of_their_rows(self):
        for base, rows in BOOKS + [place_book(2), place_book(3), place_book(4), UNITS]:
            for coefficients in COEFFICIENTS:
                with self.subTest(base=base, rows=rows, coefficients=coefficients):
                    self.assert_form(base, rows, coefficients[:len(rows)])

    def test_many_books(self):
        for seed in range(24):
            base, rows = sound_book(seed, 2 + seed % 2)
            with self.subTest(seed):
                self.assert_form(base, rows, coarse_coefficients(seed, len(rows)))

    def test_many_books_whose_sums_leave_numbers_out(self):
        for seed in range(60):
            base = 2 + seed % 3
            base, rows = coarse_book(seed, base, 3 if base == 4 else 3 + seed % 2)
            with self.subTest(seed):
                self.assert_form(base, rows, coarse_coefficients(seed, len(rows)))

    def test_six_rows(self):
        for seed in range(4):
            base, rows = coarse_book(seed, 2, 6)
            with self.subTest(seed):
                self.assert_form(base, rows, coarse_coefficients(seed, 6))

    def test_many_of_these_have_nodes_with_great_values_and_rows_above_that_are_not_nought_there(self):
        # This tells of the tests above that they would see an error in such things.
        great, above, far = 0, 0, 0
        for seed in range(60):
            base, rows = coarse_book(seed, 2 + seed % 3, 3)
            row = row_of(base, rows, coarse_coefficients(seed, 3))
            nodes = nodes_of(row)
            told = [row_named(plain(row).book, letter) for letter in plain(row).book.names]
            great += any(other.value_at(node) > 1 for other, node in zip(told, nodes))
            above += any(told[0].value_at(node) > 0 for node in nodes[1:])
            far += nodes != list(range(len(nodes)))
        self.assertGreater(min(great, above, far), 15)


class FarNodes(FormCase):

    def test_rows_that_lead_to_one_another_by_the_greatest_figure(self):
        for base in (2, 3, 4):
            for last_factor in (0, 1):
                rows = chain_book(base, 6, last_factor=last_factor)[1]
                row = row_of(base, rows, [1, 0, 0, 0, 0, 0])
                with self.subTest(base=base, last_factor=last_factor):
                    self.assertEqual(nodes_of(row), [base ** j - 1 for j in range(6)])
                    self.assertEqual(rank_of(row), 6)
                    self.assert_plain(row, base ** 5)

    def test_their_plain_book_tells_how_often_the_greatest_figure_stands(self):
        for base in (2, 3, 4):
            for last_factor in (0, 1):
                row = row_of(*chain_book(base, 6, last_factor=last_factor), [1, 0, 0, 0, 0, 0])
                rows = [("a", 1, [[(1, "a")]] * (base - 1) + [[]])]
                for before, name in zip("abcde", "bcdef"):
                    own = [(last_factor, name)] if name == "f" and last_factor else []
                    rows.append((name, 0, [[(1, name)]] * (base - 1) + [[(1, before)] + own]))
                self.assertEqual(plain(row), Row(Book(base, rows), [0, 0, 0, 0, 0, 1]))

    def test_only_the_row_and_its_parts_count_and_not_the_named_rows(self):
        for base in (2, 4):
            row = row_of(*chain_book(base, 6, factor=2), [1, 0, 0, 0, 0, 0])
            told = plain(row).book
            self.assertEqual(nodes_of(row), [base ** j - 1 for j in range(6)])
            values = [row_named(told, name).value_at(node) for name, node in zip("abcdef", nodes_of(row))]
            self.assertEqual(values, [32] * 6)
            self.assertEqual(plain(row), plain(row_of(*chain_book(base, 6), [32, 0, 0, 0, 0, 0])))

    def test_nodes_of_rows_further_on_in_the_chain(self):
        for base in (2, 3, 4):
            for index in range(6):
                coefficients = [int(other == index) for other in range(6)]
                row = row_of(*chain_book(base, 6), coefficients)
                self.assertEqual(nodes_of(row), [base ** j - 1 for j in range(6 - index)])

    def test_rings(self):
        for base in (2, 3, 4):
            row = row_of(*ring_book(base, 6), [0, 0, 0, 0, 0, 1])
            self.assertEqual(nodes_of(row), [base ** j - 1 for j in range(6)])
            self.assert_plain(row, base ** 5)

    def test_sums_in_chains(self):
        for base in (2, 3, 4):
            for coefficients in ([4, 6, 9, 0, 0, 0], [0, 10, -15, 6, 0, 8], [0, 0, 6, 0, 10, 15]):
                with self.subTest(base=base, coefficients=coefficients):
                    row = row_of(*chain_book(base, 6, factor=3, last_factor=2), coefficients)
                    self.assert_plain(row, base ** 5)

    def test_as_many_nodes_as_there_are_letters(self):
        for base in (2, 4):
            rows = chain_book(base, 26)[1]
            row = row_of(base, rows, [1] + [0] * 25)
            self.assertEqual(nodes_of(row), [base ** j - 1 for j in range(26)])
            self.assertEqual(plain(row).book.names, list(LETTERS))
            self.assertEqual(plain(row).book.start_of("a"), 1)
            self.assertEqual(plain(row).value_at(base ** 25 - 1), 1)
            self.assertEqual(plain(plain(row)), plain(row))


class Guarantees(FormCase):

    def test_what_is_said_of_plain_rows(self):
        for base, rows in BOOKS:
            for coefficients in COEFFICIENTS[:5]:
                with self.subTest(base=base, coefficients=coefficients):
                    self.assert_plain(row_of(base, rows, coefficients[:len(rows)]), 100)
        for seed in range(12):
            base, rows = coarse_book(seed, 2 + seed % 3, 4)
            self.assert_plain(row_of(base, rows, coarse_coefficients(seed, 4)), 100)

    def test_every_part_is_a_sum_of_integer_multiples_of_the_named_rows(self):
        for seed in range(9):
            base, rows = coarse_book(seed, 2 + seed % 3, 3)
            row = row_of(base, rows, coarse_coefficients(seed, 3))
            named = [row_named(plain(row).book, name).first_values(64) for name in plain(row).book.names]
            values = row.first_values(64 * base ** 3)
            parts = [values[rest::base ** j][:64] for j in range(4) for rest in range(base ** j)]
            self.assertEqual(hermite(named + parts), named)

    def test_each_named_row_is_a_sum_of_integer_multiples_of_parts(self):
        for seed in range(9):
            base, rows = coarse_book(seed, 2 + seed % 3, 3)
            row = row_of(base, rows, coarse_coefficients(seed, 3))
            named = [row_named(plain(row).book, name).first_values(16) for name in plain(row).book.names]
            values = row.first_values(16 * base ** 5)
            parts = hermite([values[rest::base ** j][:16] for j in range(6) for rest in range(base ** j)])
            self.assertEqual(hermite(parts + named), parts)

    def test_the_plain_row_of_a_plain_row_is_equal_to_it(self):
        for seed in range(20):
            base, rows = coarse_book(seed, 2 + seed % 3, 4)
            row = row_of(base, rows, coarse_coefficients(seed, 4))
            self.assertEqual(plain(plain(row)), plain(row))
            self.assertEqual(nodes_of(plain(row)), nodes_of(row))
            self.assertEqual(rank_of(plain(row)), rank_of(row))

    def test_rows_that_are_always_nought(self):
        same = [("x", 1, [[(1, "x")]] * 2), ("y", 1, [[(1, "y")]] * 2)]
        none = [("x", 0, [[(2, "x")], [(1, "y")]]), ("y", 0, [[(9, "x")], [(-9, "y"), (1, "x")]])]
        for row in [Row(Book(2, []), []), Row(Book(*ONES), [0, 0]), Row(Book(2, same), [7, -7]),
                    Row(Book(2, none), [3, 4])]:
            self.assertEqual(plain(row), Row(Book(2, []), []))
            self.assertEqual(nodes_of(row), [])
            self.assertEqual(rank_of(row), 0)
        for base in (3, 4):
            self.assertEqual(plain(Row(Book(base, []), [])), Row(Book(base, []), []))
            self.assertEqual(plain(Row(Book(*place_book(base)), [0, 0])), Row(Book(base, []), []))

    def test_named_rows_that_play_no_part_are_not_in_the_plain_book(self):
        for base, rows in BOOKS:
            coefficients = [3, -1, 5][:len(rows)]
            idle = row_of(*with_idle(base, rows, coefficients))
            self.assertEqual(plain(idle), plain(row_of(base, rows, coefficients)))
            self.assertEqual(rank_of(idle), rank_of(row_of(base, rows, coefficients)))
        self.assertEqual(plain(Row(Book(*ONES), [0, 1])), Row(Book(2, [("a", 1, [[(1, "a")]] * 2)]), [1]))


class Writings(FormCase):

    def test_writings_have_the_values_of_the_row(self):
        for base, rows in BOOKS:
            coefficients = [3, -1, 5][:len(rows)]
            for writing in writings_of(base, rows, coefficients):
                self.assertEqual(walked_sum(*writing, 100), walked_sum(base, rows, coefficients, 100))

    def test_plain_rows_of_one_row_by_unlike_books_are_equal(self):
        samples = BOOKS + [coarse_book(seed, 2 + seed % 3, 3) for seed in range(12)]
        for base, rows in samples + [chain_book(3, 5, factor=2, last_factor=3)]:
            for coefficients in ([4, 6, -3, 2, 1], [1, 0, 0, 0, 0]):
                own = coefficients[:len(rows)]
                told = plain(row_of(base, rows, own))
                for writing in writings_of(base, rows, own):
                    with self.subTest(writing):
                        self.assertEqual(plain(row_of(*writing)), told)
                        self.assertEqual(nodes_of(row_of(*writing)), nodes_of(told))

    def test_plain_rows_of_rows_that_differ_at_one_place_are_not_equal(self):
        # The row x of the chain is 0 but where the greatest figure stands just four times.
        for base in (2, 3, 4):
            chain = chain_book(base, 5)[1]
            rows = [("m", 0, [[(base, "m"), (figure, "n")] for figure in range(base)]), ("n", 1, [[(1, "n")]] * base)]
            one = row_of(base, rows + chain, [2, 3, 0, 0, 0, 0, 0])
            other = row_of(base, rows + chain, [2, 3, 1, 0, 0, 0, 0])
            self.assertEqual(one.first_values(base ** 4 - 1), other.first_values(base ** 4 - 1))
            self.assertNotEqual(plain(one), plain(other))
            self.assertEqual(plain(one), plain(row_of(base, rows, [2, 3])))

    def test_plain_rows_are_equal_just_where_the_values_are(self):
        samples = []
        for seed in range(6):
            base, rows = coarse_book(seed, 2, 3)
            for coefficients in ([1, 0, 0], [0, 1, 0], [1, 1, 0], [2, 0, 0], [-1, 0, 0], [0, 0, 0]):
                samples.append((base, rows, coefficients))
                samples.append(with_idle(base, rows, coefficients))
        told = [(walked_sum(*sample, 64), plain(row_of(*sample))) for sample in samples]
        for values, one in told:
            for other_values, other in told:
                self.assertEqual(one == other, values == other_values)


class Arguments(unittest.TestCase):

    def test_arguments_by_name(self):
        row = row_named(Book(*STERN), "s")
        self.assertEqual(plain(row=row), plain(row))
        self.assertEqual(rank_of(row=row), 2)
        self.assertEqual(nodes_of(row=row), [0, 1])

    def test_nothing_that_was_passed_is_modified(self):
        for base, rows in copy.deepcopy(BOOKS):
            row = Row(Book(base, rows), [4, 6, 9][:len(rows)])
            plain(row), rank_of(row), nodes_of(row)
            self.assertEqual(row, Row(Book(base, rows), [4, 6, 9][:len(rows)]))
        self.assertEqual(row, Row(Book(*FOURS), [4, 6, 9]))

    def test_what_was_returned_may_be_changed(self):
        row = row_named(Book(*MIXED), "q")
        nodes = nodes_of(row)
        nodes.append(7)
        nodes[0] = 5
        self.assertEqual(nodes_of(row), [0, 1, 2])
        found = plain(row)
        found.coefficients.clear()
        found.book.names.clear()
        found.book.formulas_of("a")[0].append((1, "a"))
        self.assertEqual(found, plain(row))
        self.assertIsNot(nodes_of(row), nodes_of(row))

    def test_what_was_returned_may_be_passed_on(self):
        found = plain(row_named(Book(*STERN), "s"))
        rows = [(name, found.book.start_of(name), found.book.formulas_of(name)) for name in found.book.names]
        self.assertEqual(Row(Book(found.book.base, rows), found.coefficients), found)
        self.assertEqual(found.value_at(nodes_of(found)[1]), 1)

    def test_the_listed_functions_are_defined_in_their_file(self):
        for name in ("plain", "rank_of", "nodes_of"):
            self.assertEqual(getattr(forms, name).__module__, "figurebooks.forms")


if __name__ == "__main__":
    unittest.main()

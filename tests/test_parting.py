"""The interface of `parting`, `are_alike` and `classes`, and promises [2], [3], [5], [6] and [7] for them."""

import copy
import unittest

from figurebooks import parting as parting_module
from figurebooks.books import Book
from figurebooks.errors import UnlikeBases
from figurebooks.forms import plain
from figurebooks.parting import are_alike, classes, parting
from figurebooks.rows import Row, row_named
from figurebooks.totals import totals_of
from tests.bases import BaseCase, nothing
from tests.examples import ExampleCase
from tests.references import walked_sum
from tests.samples import BOOKS, FOURS, MIXED, ONES, STERN
from tests.samples import chain_book, coarse_book, coarse_coefficients, place_book, ring_book
from tests.samples import sound_book
from tests.writings import renamed, row_of, with_idle, writings_of

# Of the example in the interface what is of this file and of relations.py, word for word.
EXAMPLE = """
>>> from figurebooks.books import Book
>>> from figurebooks.parting import are_alike, classes, parting
>>> from figurebooks.relations import relations
>>> from figurebooks.rows import Row, row_named
>>> stern = Book(2, [("s", 0, [[(1, "s")], [(1, "s"), (1, "t")]]), ("t", 1, [[(1, "s"), (1, "t")], [(1, "t")]]), ("z", 1, [[(1, "z")], []])])
>>> first, second, nought = row_named(stern, "s"), row_named(stern, "t"), row_named(stern, "z")
>>> [parting(first, second), are_alike(first, Row(stern, [1, 0, 0])), classes([first, second, first]), relations([first, second, Row(stern, [1, 1, 0])])]
[(0, -1), True, [[0, 2], [1]], [[1, 1, -1]]]
"""


def walked_parting(writing, other_writing, number):
    """Return what parts two writings at the first places, as a walk over these finds it."""
    pairs = zip(walked_sum(*writing, number), walked_sum(*other_writing, number))
    for place, (value, other_value) in enumerate(pairs):
        if value != other_value:
            return place, value - other_value
    return None


def pool(base):
    """Return writings of one base, some of them of one row."""
    found = []
    for told, rows in BOOKS + [place_book(base), coarse_book(4, base, 3), chain_book(base, 3), (base, [])]:
        if told == base:
            for coefficients in ([1, 0, 0], [1, -2, 3], [0, 0, 0]):
                found.append((base, rows, coefficients[:len(rows)]))
                found.append(with_idle(base, rows, coefficients[:len(rows)]))
    return found


class Example(ExampleCase):

    def test_the_example_of_the_interface(self):
        self.assert_example(EXAMPLE)


class PartingCase(unittest.TestCase):

    def assert_parting(self, row, other_row, expected):
        """Assert where two rows part, either way about."""
        self.assertEqual(parting(row, other_row), expected)
        self.assertIs(are_alike(row, other_row), expected is None)
        self.assertIs(are_alike(other_row, row), expected is None)
        if expected is None:
            self.assertIsNone(parting(other_row, row))
        else:
            self.assertIs(type(parting(row, other_row)), tuple)
            self.assertEqual(parting(other_row, row), (expected[0], -expected[1]))


class ByWalking(PartingCase):

    def test_all_pairs_of_a_pool(self):
        for base in (2, 3, 4):
            told = pool(base)
            walked = [walked_sum(*writing, base ** 6) for writing in told]
            rows = [row_of(*writing) for writing in told]
            for one, row in enumerate(rows):
                for other, other_row in enumerate(rows[:one + 1]):
                    unlike = [n for n, (x, y) in enumerate(zip(walked[one], walked[other])) if x != y]
                    expected = None
                    if unlike:
                        expected = unlike[0], walked[one][unlike[0]] - walked[other][unlike[0]]
                    with self.subTest(base=base, one=told[one], other=told[other]):
                        self.assert_parting(row, other_row, expected)

    def test_rows_of_one_book(self):
        for seed in range(40):
            base, rows = coarse_book(seed, 2 + seed % 3, 4)
            one, other = coarse_coefficients(seed, 4), coarse_coefficients(seed + 1, 4)
            # Two rows that have the same value at place 0 part further on.
            starts = [start for _, start, _ in rows]
            mixed = [one[0] + starts[1], one[1] - starts[0], one[2], one[3]]
            for coefficients in (other, mixed):
                expected = walked_parting((base, rows, one), (base, rows, coefficients), base ** 3)
                with self.subTest(seed=seed, coefficients=coefficients):
                    self.assert_parting(row_of(base, rows, one), row_of(base, rows, coefficients), expected)

    def test_rows_of_two_books(self):
        for seed in range(40):
            one = sound_book(seed, 2 + seed % 3) + ([1, 0, 2, 0, -1],)
            for other in (coarse_book(seed, one[0], 4) + ([1, 2, 3, 4],), sound_book(seed + 3, one[0]) + ([1] * 5,)):
                expected = walked_parting(one, other, 50)
                self.assertIsNotNone(expected)
                self.assert_parting(row_of(*one), row_of(*other), expected)


class FarOut(PartingCase):

    def test_a_row_that_is_nought_up_to_a_far_place(self):
        for base in (2, 3, 4):
            row = row_of(*chain_book(base, 6, factor=3), [2, 0, 0, 0, 0, 0])
            self.assert_parting(row, nothing(base), (base ** 5 - 1, 2 * 3 ** 5))
            self.assert_parting(row, Row(row.book, [0] * 6), (base ** 5 - 1, 2 * 3 ** 5))

    def test_rows_that_part_where_the_greatest_figure_stands_so_often(self):
        # The row of the ring is 1 where the greatest figure stands 5, 5 + count, .. times; the other one at 5 only.
        for base in (2, 3, 4):
            chain = row_of(*chain_book(base, 6), [1, 0, 0, 0, 0, 0])
            for count in (6, 5, 4, 3, 2, 1):
                times = 5 % count
                ring = row_of(*ring_book(base, count), [int(k == count - 1 - times) for k in range(count)])
                if times == 5:
                    self.assert_parting(ring, chain, (base ** 11 - 1, 1))
                    self.assert_parting(chain, ring, (base ** 11 - 1, -1))
                else:
                    self.assert_parting(ring, chain, (base ** times - 1, 1))

    def test_they_part_there_as_a_walk_finds_it(self):
        chain = chain_book(2, 6) + ([1, 0, 0, 0, 0, 0],)
        ring = ring_book(2, 6) + ([1, 0, 0, 0, 0, 0],)
        self.assertEqual(walked_parting(ring, chain, 2 ** 11), (2 ** 11 - 1, 1))
        self.assertEqual(parting(row_of(*ring), row_of(*chain)), (2 ** 11 - 1, 1))
        self.assertIsNone(walked_parting(ring, chain, 2 ** 11 - 1))

    def test_rows_that_part_at_each_power_less_one(self):
        for base in (2, 3, 4):
            rows = renamed(*place_book(base), [1, 0])[1] + chain_book(base, 8)[1]
            one = row_of(base, rows, [1, 0] + [0] * 8)
            for times in range(8):
                other = row_of(base, rows, [1, 0] + [int(k == 7 - times) for k in range(8)])
                self.assert_parting(other, one, (base ** times - 1, 1))

    def test_greater_books_part_further_on(self):
        for base in (2, 4):
            one = row_of(*ring_book(base, 26), [1] + [0] * 25)
            other = row_of(*chain_book(base, 26), [1] + [0] * 25)
            self.assert_parting(one, other, (base ** 51 - 1, 1))

    def test_rows_that_part_behind_the_first_place_only(self):
        book = Book(2, ONES[1] + [("z", 1, [[(1, "z")], []])])
        self.assert_parting(Row(book, [1, 1, 0]), Row(book, [1, 0, 1]), (1, 1))
        self.assert_parting(Row(book, [0, 1, 0]), Row(book, [0, 0, 1]), (1, 1))


class Alike(PartingCase):

    def test_a_row_and_itself(self):
        for base, rows in BOOKS + [(2, []), (3, []), (4, [])]:
            row = row_of(base, rows, [3, -1, 5][:len(rows)])
            self.assert_parting(row, row, None)
            self.assert_parting(row, row_of(base, rows, [3, -1, 5][:len(rows)]), None)
            self.assert_parting(row, plain(row), None)

    def test_writings_of_one_row(self):
        for base, rows in BOOKS + [coarse_book(seed, 2 + seed % 3, 3) for seed in range(6)]:
            coefficients = [4, 6, -3][:len(rows)]
            row = row_of(base, rows, coefficients)
            other = row_of(*with_idle(base, rows, [4, 6, -2][:len(rows)]))
            for writing in writings_of(base, rows, coefficients):
                with self.subTest(writing):
                    self.assert_parting(row, row_of(*writing), None)
                    self.assertEqual(are_alike(row_of(*writing), other), plain(row) == plain(other))

    def test_steps_of_totals(self):
        for base, rows in (ONES, STERN, MIXED, FOURS):
            row = row_of(base, rows, [1, 2, 3][:len(rows)])
            self.assertFalse(are_alike(totals_of(row), row))
            self.assert_parting(totals_of(row), totals_of(plain(row)), None)

    def test_true_and_false_themselves(self):
        row, other_row = row_named(Book(*STERN), "s"), row_named(Book(*STERN), "t")
        self.assertIs(are_alike(row, row), True)
        self.assertIs(are_alike(row, other_row), False)


class Classes(unittest.TestCase):

    def assert_classes(self, rows, expected):
        self.assertEqual(classes(rows), expected)

    def test_one_row(self):
        for base, rows in BOOKS + [(3, [])]:
            self.assert_classes([row_of(base, rows, [1, 2, 3][:len(rows)])], [[0]])

    def test_all_alike(self):
        for base, rows in BOOKS:
            told = [row_of(*writing) for writing in writings_of(base, rows, [1, 2, 3][:len(rows)])]
            for number in (2, 3, 4, 6):
                self.assert_classes(told[-number:], [list(range(number))])
        self.assert_classes([nothing(2), Row(Book(*ONES), [0, 0])], [[0, 1]])

    def test_none_alike(self):
        book = Book(*STERN)
        self.assert_classes([Row(book, [1, k]) for k in range(4)], [[0], [1], [2], [3]])
        self.assert_classes([Row(book, [2, 0]), nothing(2), Row(Book(*ONES), [2, 0])], [[0], [1], [2]])

    def test_all_sequences_of_three_rows(self):
        book = Book(*ONES)
        kinds = [[Row(book, [1, 0]), row_of(*with_idle(*ONES, [1, 0])), plain(Row(book, [1, 0]))],
                 [Row(book, [0, 1]), plain(Row(book, [0, 1])), row_of(*with_idle(*ONES, [0, 1]))],
                 [Row(Book(*STERN), [1, 0]), plain(Row(Book(*STERN), [1, 0])), Row(Book(*STERN), [1, 0])]]
        for number in range(81):
            marks = [number // 27, number // 9 % 3, number // 3 % 3, number % 3]
            rows = [kinds[mark][index % 3] for index, mark in enumerate(marks)]
            found = {}
            for index, mark in enumerate(marks):
                found.setdefault(mark, []).append(index)
            self.assert_classes(rows, list(found.values()))

    def test_rows_that_part_far_out(self):
        chain = row_of(*chain_book(2, 6), [1, 0, 0, 0, 0, 0])
        ring = row_of(*ring_book(2, 6), [1, 0, 0, 0, 0, 0])
        self.assert_classes([ring, chain, plain(ring), plain(chain)], [[0, 2], [1, 3]])
        self.assert_classes([chain, nothing(2), nothing(2), ring], [[0], [1, 2], [3]])

    def test_pools(self):
        for base in (2, 3, 4):
            told = pool(base)
            values = [walked_sum(*writing, base ** 6) for writing in told]
            for first in range(0, len(told) - 1):
                for indices in ([first, first + 1, 0], [first, -1, first - 3, first], [3, first, 2, first + 1]):
                    found = {}
                    for place, index in enumerate(indices):
                        found.setdefault(tuple(values[index]), []).append(place)
                    rows = [row_of(*told[index]) for index in indices]
                    self.assert_classes(rows, list(found.values()))

    def test_lists_of_other_lengths(self):
        row = Row(Book(*ONES), [1, 0])
        self.assert_classes([], [])
        self.assert_classes([row] * 9 + [nothing(2)] + [row], [[0, 1, 2, 3, 4, 5, 6, 7, 8, 10], [9]])


class BaseCheck(BaseCase):

    def test_two_rows_of_unlike_bases(self):
        for function in (parting, are_alike):
            self.assert_base_check_of_two(function)

    def test_lists_with_rows_of_unlike_bases(self):
        self.assert_base_check_of_lists(classes)


class Arguments(unittest.TestCase):

    def test_arguments_by_name(self):
        row, other_row = row_named(Book(*STERN), "s"), row_named(Book(*STERN), "t")
        self.assertEqual(parting(row=row, other_row=other_row), (0, -1))
        self.assertEqual(parting(other_row=row, row=other_row), (0, 1))
        self.assertFalse(are_alike(other_row=other_row, row=row))
        self.assertEqual(classes(rows=[row, other_row, row]), [[0, 2], [1]])
        with self.assertRaises(UnlikeBases) as context:
            parting(other_row=nothing(3), row=row)
        self.assertEqual(context.exception.value, (2, 3))

    def test_nothing_that_was_passed_is_modified(self):
        for base, rows in copy.deepcopy(BOOKS):
            row = row_of(base, rows, [4, 6, 9][:len(rows)])
            other_row = row_of(base, rows, [4, 6, 8][:len(rows)])
            told = [row, other_row, row]
            parting(row, other_row), are_alike(row, other_row), classes(told)
            self.assertEqual(row, row_of(base, rows, [4, 6, 9][:len(rows)]))
            self.assertEqual(other_row, row_of(base, rows, [4, 6, 8][:len(rows)]))
            self.assertEqual(len(told), 3)
            self.assertTrue(told[0] is row and told[1] is other_row and told[2] is row)

    def test_returned_lists_may_be_changed(self):
        rows = [row_named(Book(*STERN), name) for name in "sts"]
        found = classes(rows)
        found[0].append(7)
        found[1].clear()
        found.reverse()
        self.assertEqual(classes(rows), [[0, 2], [1]])
        self.assertIsNot(classes(rows)[0], classes(rows)[0])

    def test_the_listed_functions_are_defined_in_their_file(self):
        for name in ("parting", "are_alike", "classes"):
            self.assertEqual(getattr(parting_module, name).__module__, "figurebooks.parting")


if __name__ == "__main__":
    unittest.main()

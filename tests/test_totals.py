"""The interface of `total_between` and `totals_of`, and promises [2], [3], [5] and [7] for them."""

import copy
import unittest

from figurebooks import totals
from figurebooks.books import Book
from figurebooks.errors import InvalidNumber, InvalidStretch
from figurebooks.forms import nodes_of, plain, rank_of
from figurebooks.rows import Row, row_named
from figurebooks.totals import total_between, totals_of
from tests.examples import ExampleCase
from tests.references import reference_form, walked_sum
from tests.samples import BOOKS, FOURS, MIXED, ONES, STERN
from tests.samples import chain_book, coarse_book, coarse_coefficients, place_book, sound_book
from tests.samples import telling_places, value_of
from tests.writings import row_of

# Word for word as in the interface.
EXAMPLE = """
>>> from figurebooks.books import Book
>>> from figurebooks.forms import nodes_of, plain, rank_of
>>> from figurebooks.rows import row_named
>>> from figurebooks.totals import total_between, totals_of
>>> ones = Book(2, [("o", 0, [[(1, "o")], [(1, "o"), (1, "e")]]), ("e", 1, [[(1, "e")], [(1, "e")]])])
>>> row = row_named(ones, "o")
>>> [total_between(row, 0, 7), total_between(row, 5, 5), totals_of(row).first_values(6), nodes_of(row), rank_of(row), plain(row).coefficients, plain(row).book.formulas_of("a"), plain(row).book.formulas_of("b")]
[12, 2, [0, 0, 1, 2, 4, 5], [0, 1], 2, [0, 1], [[(1, 'a')], [(-1, 'b')]], [[(1, 'b')], [(1, 'a'), (2, 'b')]]]
"""

SAMPLES = BOOKS + [place_book(3), place_book(4), sound_book(5, 4), coarse_book(4, 3, 4), chain_book(2, 6)]

# Its totals have nodes with great values.
UNEVEN = (2, [("h", 4, [[(1, "h")], [(6, "k")]]), ("k", 2, [[(1, "k")], [(3, "h"), (-2, "k")]])])


class Below:
    """The sums of the values of a row at all lesser places, by the last figures of these places."""

    def __init__(self, base, rows, coefficients):
        self.base, self.rows, self.coefficients = base, rows, coefficients
        self.values, self.sums = {}, {0: {name: 0 for name, _, _ in rows}}

    def __getitem__(self, place):
        sums = self.sums_of_all(place)
        return sum(coefficient * sums[row[0]] for coefficient, row in zip(self.coefficients, self.rows))

    def sums_of_all(self, place):
        # Lesser places that end with a figure stand, without it, before place // base, or at it.
        if place not in self.sums:
            shorter, figure = divmod(place, self.base)
            lesser, found = self.sums_of_all(shorter), {}
            for name, _, formulas in self.rows:
                found[name] = sum(factor * lesser[other] for terms in formulas for factor, other in terms)
                for terms in formulas[:figure]:
                    found[name] += sum(factor * value_of(self.base, self.rows, other, shorter, self.values)
                                       for factor, other in terms)
            self.sums[place] = found
        return self.sums[place]


def written_totals(base, rows, coefficients):
    """Write the totals of a row at lesser places as a row of a greater book."""
    letters = [letter for letter in "abcdefghijklmnopqrstuvwxyz" if letter not in [row[0] for row in rows]]
    totals_named = {row[0]: letter for row, letter in zip(rows, letters)}
    more = []
    for name, _, formulas in rows:
        lesser = [(factor, totals_named[other]) for terms in formulas for factor, other in terms]
        steps = [lesser + [term for terms in formulas[:figure] for term in terms] for figure in range(base)]
        more.append((totals_named[name], 0, steps))
    return base, rows + more, [0] * len(rows) + coefficients


def coefficients_for(rows):
    return [3, -7, 2, 5, -1, 4][:len(rows)]


class Example(ExampleCase):

    def test_the_example_of_the_interface(self):
        self.assert_example(EXAMPLE)


class Stretches(unittest.TestCase):

    def test_stretches_near_nought(self):
        for base, rows in SAMPLES:
            row = row_of(base, rows, coefficients_for(rows))
            values = walked_sum(base, rows, coefficients_for(rows), 40)
            for low in range(40):
                for high in range(low, 40):
                    with self.subTest(base=base, rows=rows, low=low, high=high):
                        self.assertEqual(total_between(row, low, high), sum(values[low:high + 1]))

    def test_stretches_next_to_powers_of_the_base(self):
        for base, rows in SAMPLES:
            row = row_of(base, rows, coefficients_for(rows))
            for exponent in (3, 10, 40):
                first = base ** exponent - 4
                known = {}
                values = [
                    sum(coefficient * value_of(base, rows, told[0], first + index, known)
                        for coefficient, told in zip(coefficients_for(rows), rows))
                    for index in range(9)
                ]
                for low in range(9):
                    for high in range(low, 9):
                        with self.subTest(base=base, rows=rows, exponent=exponent, low=low, high=high):
                            found = total_between(row, first + low, first + high)
                            self.assertEqual(found, sum(values[low:high + 1]))

    def test_what_the_next_tests_compare_with(self):
        for base, rows in SAMPLES:
            values = walked_sum(base, rows, coefficients_for(rows), 90)
            below = Below(base, rows, coefficients_for(rows))
            for place in range(90):
                self.assertEqual(below[place], sum(values[:place]))

    def test_far_stretches(self):
        for base, rows in SAMPLES:
            row = row_of(base, rows, coefficients_for(rows))
            places = telling_places(base)
            below = Below(base, rows, coefficients_for(rows))
            for low, high in zip(places, places[5:] + places[-1:]):
                low, high = min(low, high), max(low, high)
                with self.subTest(base=base, rows=rows, low=low, high=high):
                    self.assertEqual(total_between(row, low, high), below[high + 1] - below[low])
                    self.assertEqual(total_between(row, 0, high), below[high + 1])

    def test_one_place_alone(self):
        for base, rows in SAMPLES:
            row = row_of(base, rows, coefficients_for(rows))
            for place in telling_places(base):
                with self.subTest(base=base, rows=rows, place=place):
                    self.assertEqual(total_between(row, place, place), row.value_at(place))

    def test_two_stretches_side_by_side(self):
        for base, rows in SAMPLES:
            row = row_of(base, rows, coefficients_for(rows))
            for low, middle, high in [(0, 0, 1), (0, 26, 27), (5, 80, 2 ** 90), (10 ** 28, 10 ** 29, 10 ** 30)]:
                both = total_between(row, low, middle) + total_between(row, middle + 1, high)
                self.assertEqual(total_between(row, low, high), both)

    def test_a_book_with_no_rows(self):
        for base in (2, 3, 4):
            row = Row(Book(base, []), [])
            for low, high in [(0, 0), (0, 10 ** 30), (7, 9)]:
                self.assertEqual(total_between(row, low, high), 0)


class Meanings(unittest.TestCase):

    def test_sums_of_places(self):
        for base in (2, 3, 4):
            row = row_named(Book(*place_book(base)), "p")
            for low in (0, 1, 12, 10 ** 29):
                for high in (12, 13, 10 ** 29 + 5, 10 ** 30):
                    if low <= high:
                        self.assertEqual(total_between(row, low, high), (high - low + 1) * (low + high) // 2)
            self.assertEqual(total_between(row_named(Book(*place_book(base)), "u"), 5, 10 ** 30), 10 ** 30 - 4)

    def test_ones_of_all_numbers_with_so_many_figures(self):
        row = row_named(Book(*ONES), "o")
        for exponent in range(1, 100):
            self.assertEqual(total_between(row, 0, 2 ** exponent - 1), exponent * 2 ** (exponent - 1))

    def test_stern_between_powers_of_two_adds_up_to_powers_of_three(self):
        row = row_named(Book(*STERN), "s")
        for exponent in range(100):
            self.assertEqual(total_between(row, 2 ** exponent, 2 ** (exponent + 1) - 1), 3 ** exponent)


class Errors(unittest.TestCase):

    def refused(self, error, value, row, low, high):
        with self.assertRaises(error) as context:
            total_between(row, low, high)
        self.assertIs(type(context.exception), error)
        self.assertEqual(context.exception.value, value)

    def test_a_negative_low(self):
        for row in (row_named(Book(*ONES), "o"), Row(Book(3, []), [])):
            for low in (-1, -2, -10 ** 30):
                for high in (0, 5, 10 ** 30, low, low + 1, -low):
                    self.refused(InvalidNumber, low, row, low, high)

    def test_a_high_that_is_less_than_low(self):
        for row in (row_named(Book(*ONES), "o"), Row(Book(3, []), [])):
            for low, high in [(1, 0), (0, -1), (0, -10 ** 30), (10 ** 30, 10 ** 30 - 1), (7, -7)]:
                self.refused(InvalidStretch, (low, high), row, low, high)

    def test_both_wrong_the_negative_low_is_told(self):
        for row in (row_named(Book(*ONES), "o"), Row(Book(3, []), [])):
            for low, high in [(-1, -2), (-1, -10 ** 30), (-5, -6)]:
                self.refused(InvalidNumber, low, row, low, high)

    def test_equal_low_and_high_raise_nothing(self):
        row = row_named(Book(*ONES), "e")
        for place in (0, 1, 2, 10 ** 30):
            self.assertEqual(total_between(row, place, place), 1)

    def test_an_error_changes_nothing(self):
        row = Row(Book(*ONES), [1, 2])
        self.assertRaises(InvalidNumber, total_between, row, -1, 5)
        self.assertRaises(InvalidStretch, total_between, row, 5, 4)
        self.assertEqual(row, Row(Book(*ONES), [1, 2]))
        self.assertEqual(row.first_values(3), [2, 3, 3])


class Totals(unittest.TestCase):

    def test_values_near_and_far(self):
        for base, rows in SAMPLES:
            coefficients = coefficients_for(rows)
            found = totals_of(row_of(base, rows, coefficients))
            values = walked_sum(base, rows, coefficients, 100)
            below = Below(base, rows, coefficients)
            with self.subTest(base=base, rows=rows):
                self.assertEqual(found.first_values(100), [sum(values[:place]) for place in range(100)])
                for place in telling_places(base):
                    self.assertEqual(found.value_at(place), below[place])

    def test_it_is_the_plain_row(self):
        for base, rows in SAMPLES:
            found = totals_of(row_of(base, rows, coefficients_for(rows)))
            written = row_of(*written_totals(base, rows, coefficients_for(rows)))
            with self.subTest(base=base, rows=rows):
                self.assertIsInstance(found, Row)
                self.assertEqual(found, plain(written))
                self.assertEqual(found, plain(found))

    def test_it_is_the_plain_row_as_worked_out_by_walking(self):
        samples = [ONES, STERN, place_book(2), place_book(3), place_book(4), UNEVEN]
        samples += [coarse_book(seed, 2, 3) for seed in range(10)]
        samples += [coarse_book(seed, 3, 2) for seed in range(10)]
        for base, rows in samples:
            coefficients = coarse_coefficients(7, len(rows))
            nodes, form, multiples = reference_form(*written_totals(base, rows, coefficients))
            found = totals_of(row_of(base, rows, coefficients))
            with self.subTest(base=base, rows=rows):
                self.assertEqual(found, Row(Book(base, form), multiples))
                self.assertEqual(nodes_of(found), nodes)

    def test_totals_of_totals(self):
        for base, rows in (ONES, STERN, MIXED, FOURS, coarse_book(4, 3, 3)):
            values = walked_sum(base, rows, coefficients_for(rows), 100)
            found = row_of(base, rows, coefficients_for(rows))
            for _ in range(3):
                values = [sum(values[:place]) for place in range(100)]
                before, found = found, totals_of(found)
                self.assertEqual(found.first_values(100), values)
                self.assertEqual(found, plain(found))
                for place in telling_places(base)[-9:]:
                    self.assertEqual(found.value_at(place + 1) - found.value_at(place), before.value_at(place))

    def test_totals_of_what_is_always_one(self):
        # 1, then the places, then how many pairs, triples and so on there are of lesser places.
        for base in (2, 3, 4):
            found = row_named(Book(*place_book(base)), "u")
            for size in range(1, 6):
                found = totals_of(found)
                self.assertEqual(rank_of(found), size + 1)
                product, divisor = 1, 1
                for less in range(size):
                    product, divisor = product * (10 ** 30 - less), divisor * (less + 1)
                self.assertEqual(found.value_at(10 ** 30), product // divisor)

    def test_more_nodes_than_the_row(self):
        row = row_named(Book(*ONES), "o")
        self.assertEqual((rank_of(row), rank_of(totals_of(row))), (2, 4))
        row = row_named(Book(*STERN), "s")
        self.assertEqual((rank_of(row), rank_of(totals_of(row))), (2, 3))
        row = row_of(*chain_book(3, 6), [1, 0, 0, 0, 0, 0])
        self.assertEqual((rank_of(row), rank_of(totals_of(row))), (6, 12))
        self.assertEqual(rank_of(totals_of(totals_of(row))), 18)
        self.assertEqual(totals_of(row).value_at(3 ** 7), 2 ** 2 * 21)

    def test_the_row_that_is_always_nought(self):
        for row in (Row(Book(2, []), []), Row(Book(2, ONES[1]), [0, 0])):
            self.assertEqual(totals_of(row), Row(Book(2, []), []))
        self.assertEqual(totals_of(Row(Book(4, []), [])), Row(Book(4, []), []))


class Arguments(unittest.TestCase):

    def test_arguments_by_name(self):
        row = row_named(Book(*STERN), "s")
        self.assertEqual(total_between(high=7, low=4, row=row), 9)
        self.assertEqual(totals_of(row=row), totals_of(row))
        with self.assertRaises(InvalidStretch):
            total_between(low=2, row=row, high=1)

    def test_nothing_that_was_passed_is_modified(self):
        for base, rows in copy.deepcopy(SAMPLES):
            row = row_of(base, rows, coefficients_for(rows))
            total_between(row, 3, 10 ** 30)
            totals_of(row)
            self.assertEqual(row, row_of(base, copy.deepcopy(rows), coefficients_for(rows)))

    def test_what_was_returned_may_be_changed_and_passed_on(self):
        row = row_named(Book(*STERN), "s")
        found = totals_of(row)
        found.coefficients.clear()
        found.book.formulas_of("a").clear()
        self.assertEqual(found, totals_of(row))
        self.assertEqual(total_between(found, 0, 5), 0 + 0 + 1 + 2 + 4 + 5)
        self.assertEqual(row_named(found.book, "a").value_at(0), 1)

    def test_the_listed_functions_are_defined_in_their_file(self):
        for name in ("total_between", "totals_of"):
            self.assertEqual(getattr(totals, name).__module__, "figurebooks.totals")


if __name__ == "__main__":
    unittest.main()

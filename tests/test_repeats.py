"""The interface of `repeated`, `far_rest` and `recurrence`, and promises [2], [3] and [5] for them."""

import copy
import unittest
from itertools import product as all_of

from figurebooks import repeats
from figurebooks.books import Book
from figurebooks.errors import InvalidFigure, InvalidNumber
from figurebooks.forms import plain
from figurebooks.joins import added, moved, product, scaled, thinned
from figurebooks.repeats import far_rest, recurrence, repeated
from figurebooks.rows import Row, row_named
from tests.bases import nothing
from tests.examples import ExampleCase
from tests.references import rank
from tests.refusals import RefusalCase
from tests.samples import BOOKS, FOURS, MIXED, ONES, STERN
from tests.samples import alone_book, chain_book, coarse_book, coarse_coefficients, falling_book
from tests.samples import place_book, ring_book, sound_book, sum_of
from tests.writings import row_of, turned, with_idle

# Word for word as in the interface.
EXAMPLE = """
>>> from figurebooks.books import Book
>>> from figurebooks.repeats import far_rest, recurrence, repeated
>>> from figurebooks.rests import count_rest, first_rest, rests_of
>>> from figurebooks.rows import row_named
>>> stern = Book(2, [("s", 0, [[(1, "s")], [(1, "s"), (1, "t")]]), ("t", 1, [[(1, "s"), (1, "t")], [(1, "t")]])])
>>> first = row_named(stern, "s")
>>> [first_rest(first, 3, 2), count_rest(first, 2, 0, 9), rests_of(first, 2), [repeated(first, 1, [0, 1], times) for times in range(4)], recurrence(first, 1, [0, 1]), recurrence(first, 0, [0]), far_rest(first, 1, [0, 1], 3, 10)]
[3, 4, [0, 1], [1, 3, 8, 21], [3, -1], [], 1]
"""

THIRTY = 123456789012345678901234567890
HEADS = (0, 1, 2, 3, 5, 27, 100, THIRTY, 10 ** 30)
MODULI = (1, 2, 7, 10, 97, 4096, 10 ** 9 + 7, 10 ** 12 - 11, 10 ** 12)
FAR_TIMES = (0, 1, 2, 31, 64, 1000, 10 ** 9 + 1, 10 ** 30 - 1, 10 ** 30, THIRTY)


def blocks_of(base):
    """Return blocks of one to four figures: noughts alone, noughts ahead, noughts behind, and others."""
    great = base - 1
    found = [[figure] for figure in range(base)]
    found += [[0, 0], [0, 1], [1, 0], [great, great], [1, great], [0, 0, 0], [0, great, 0], [great, 0, 1]]
    return found + [[0, 0, 0, 0], [0, 0, 0, 1], [1, 0, 0, 0], [great] * 4, [1, 0, great, 1]]


def samples():
    """Return writings of rows of many books."""
    found = [(base, rows, [3, -1, 5][:len(rows)]) for base, rows in BOOKS]
    found += [place_book(base) + ([1, 0],) for base in (2, 3, 4)]
    found += [sound_book(3, 3) + ([1, -2, 0, 4, 1],), coarse_book(5, 4, 4) + ([1, 2, -3, 4],)]
    found += [falling_book(2, 2, 6) + ([0, 0, 0, 0, 0, 1],), chain_book(3, 6, 2, -1) + ([1, 0, 0, 0, 0, 4],)]
    return found + [(base, [], []) for base in (2, 3, 4)]


def place_of(base, head, block, times):
    """Put the figures of a place together."""
    figures = []
    while head > 0:
        figures.insert(0, head % base)
        head //= base
    place = 0
    for figure in figures + block * times:
        place = place * base + figure
    return place


def rest_by_powers(base, rows, coefficients, head, block, times, modulus):
    """Work the remainder out by the powers of the block, as a table of what it makes of each named row."""
    names = [row[0] for row in rows]

    def after(table, other):
        return {(x, y): sum(other[x, z] * table[z, y] for z in names) % modulus for x in names for y in names}

    def power(table, exponent):
        if exponent == 0:
            return {(x, y): int(x == y) % modulus for x in names for y in names}
        half = power(table, exponent // 2)
        return after(after(half, half), table) if exponent % 2 else after(half, half)

    whole = power({}, 0)
    for figure in block:
        step = {(x, y): 0 for x in names for y in names}
        for name, _, formulas in rows:
            for factor, other in formulas[figure]:
                step[name, other] += factor
        whole = after(whole, step)
    made = power(whole, times)
    starts = {name: sum_of(base, rows, [int(name == other) for other in names], head) for name in names}
    return sum(c * made[x, y] * starts[y] for c, x in zip(coefficients, names) for y in names) % modulus


class RepeatCase(unittest.TestCase):

    def assert_recurrence(self, row, head, block):
        """Assert that the list makes the values and that no shorter one does; return it."""
        found = recurrence(row, head, block)
        size = len(found)
        values = [repeated(row, head, block, times) for times in range(31)]
        for times in range(31 - size):
            made = sum(factor * values[times + size - 1 - index] for index, factor in enumerate(found))
            self.assertEqual(values[times + size], made)
        self.assertTrue(all(type(factor) is int for factor in found))
        # A list of so many terms is there just if a table of the values, moved on from line to line, has this rank.
        table = [values[line:line + 15] for line in range(15)]
        self.assertEqual(rank(table), size)
        self.assertEqual(found == [], not any(values))
        return found


class Example(ExampleCase):

    def test_the_example_of_the_interface(self):
        self.assert_example(EXAMPLE)


class Repeated(RepeatCase):

    def test_values_at_places_that_are_put_together(self):
        for writing in samples():
            row = row_of(*writing)
            base = writing[0]
            for head in HEADS:
                for block in blocks_of(base):
                    for times in (0, 1, 2, 3, 7):
                        place = place_of(base, head, block, times)
                        if place <= 10 ** 30:
                            found = repeated(row, head, block, times)
                            self.assertEqual(found, row.value_at(place))

    def test_values_as_the_formulas_tell_them(self):
        for writing in samples():
            row = row_of(*writing)
            base = writing[0]
            for index, block in enumerate(blocks_of(base)):
                for head in (0, 1, THIRTY):
                    for times in (index % 5, 29, 30):
                        with self.subTest(writing=writing, head=head, block=block, times=times):
                            place = place_of(base, head, block, times)
                            self.assertEqual(repeated(row, head, block, times), sum_of(*writing, place))

    def test_all_times_and_all_small_blocks(self):
        for base, rows, coefficients in (STERN + ([2, -3],), MIXED + ([1, 2, 3],)):
            row = row_of(base, rows, coefficients)
            for size in (1, 2, 3):
                for block in all_of(range(base), repeat=size):
                    for times in range(0, 31, size):
                        place = place_of(base, 5, list(block), times)
                        self.assertEqual(repeated(row, 5, list(block), times), row.value_at(place))
            for times in range(31):
                self.assertEqual(repeated(row, 1, [1, 0], times), row.value_at(place_of(base, 1, [1, 0], times)))

    def test_noughts_behind_the_head_nought(self):
        for writing in samples():
            row = row_of(*writing)
            for times in (0, 1, 30):
                for block in ([0], [0, 0], [0, 0, 0], [0, 0, 0, 0]):
                    self.assertEqual(repeated(row, 0, block, times), row.value_at(0))
                self.assertEqual(repeated(row, 0, [0, 1], times), row.value_at(place_of(writing[0], 0, [0, 1], times)))
                self.assertEqual(repeated(row, THIRTY, [1], 0), row.value_at(THIRTY))

    def test_known_values(self):
        self.assertEqual([repeated(row_named(Book(*ONES), "o"), 5, [1, 0, 1], times) for times in range(31)],
                         [2 + 2 * times for times in range(31)])
        for base in (2, 3, 4):
            place = row_named(Book(*place_book(base)), "p")
            self.assertEqual(repeated(place, 7, [0], 30), 7 * base ** 30)
            self.assertEqual(repeated(place, 0, [base - 1] * 4, 30), base ** 120 - 1)


class FarRests(RepeatCase):

    def test_few_times(self):
        for writing in samples():
            row = row_of(*writing)
            for block in blocks_of(writing[0])[1::3]:
                for head in (0, 3, THIRTY):
                    for times in (0, 1, 2, 3, 4, 5, 13, 30):
                        told = repeated(row, head, block, times)
                        for modulus in MODULI:
                            self.assertEqual(far_rest(row, head, block, times, modulus), told % modulus)

    def test_many_times(self):
        for writing in samples():
            row = row_of(*writing)
            blocks = blocks_of(writing[0])
            for index, times in enumerate(FAR_TIMES):
                block, head = blocks[3 * index % len(blocks)], HEADS[index % len(HEADS)]
                for modulus in (2, 10 ** 9 + 7, 10 ** 12):
                    with self.subTest(writing=writing, head=head, block=block, times=times, modulus=modulus):
                        expected = rest_by_powers(*writing, head, block, times, modulus)
                        self.assertEqual(far_rest(row, head, block, times, modulus), expected)

    def test_what_this_compares_with(self):
        for writing in samples():
            for times in (0, 1, 5, 6):
                told = sum_of(*writing, place_of(writing[0], 4, [1, 0, 1], times))
                self.assertEqual(rest_by_powers(*writing, 4, [1, 0, 1], times, 10 ** 12), told % 10 ** 12)

    def test_the_place_itself(self):
        for base in (2, 3, 4):
            row = row_named(Book(*place_book(base)), "p")
            for times in FAR_TIMES:
                for modulus in MODULI:
                    power = pow(base, 2 * times, modulus * (base ** 2 - 1))
                    # The block is worth 1, and is repeated in base ** 2.
                    expected = (5 * power + (power - 1) // (base ** 2 - 1)) % modulus
                    self.assertEqual(far_rest(row, 5, [0, 1], times, modulus), expected)

    def test_how_many_ones(self):
        row = row_named(Book(*ONES), "o")
        for times in FAR_TIMES:
            for modulus in MODULI:
                self.assertEqual(far_rest(row, 5, [1, 0, 1, 1], times, modulus), (2 + 3 * times) % modulus)

    def test_negative_values(self):
        row = Row(Book(*ONES), [-1, 0])
        for times in FAR_TIMES:
            for modulus in MODULI:
                self.assertEqual(far_rest(row, 5, [1, 0, 1], times, modulus), -(2 + 2 * times) % modulus)
        row = row_of(2, [("g", 1, [[(1, "g")], [(-3, "g")]])], [5])
        for times in FAR_TIMES:
            for modulus in MODULI:
                self.assertEqual(far_rest(row, 0, [1], times, modulus), 5 * pow(-3, times, modulus) % modulus)

    def test_remainders_are_less_than_the_modulus_and_not_negative(self):
        for writing in samples():
            for modulus in MODULI:
                for times in FAR_TIMES[1::3]:
                    self.assertIn(far_rest(row_of(*writing), 2, [1], times, modulus), range(modulus))


class Recurrences(RepeatCase):

    def test_values_and_length(self):
        lengths = set()
        for writing in samples():
            row = row_of(*writing)
            for block in blocks_of(writing[0]):
                for head in (0, 1, 11, THIRTY):
                    with self.subTest(writing=writing, block=block, head=head):
                        lengths.add(len(self.assert_recurrence(row, head, block)))
        self.assertLessEqual({0, 1, 2, 3, 4}, lengths)

    def test_many_books(self):
        for seed in range(30):
            base = 2 + seed % 3
            row = row_of(*coarse_book(seed, base, 5), coarse_coefficients(seed, 5))
            self.assert_recurrence(row, seed, [seed % base])
            self.assert_recurrence(row, seed % 4, [1, seed % base, 0])

    def test_six_rows_that_lead_to_one_another(self):
        for base in (2, 3, 4):
            ring, chain = row_of(*ring_book(base, 6), [1] + [0] * 5), row_of(*chain_book(base, 6), [1] + [0] * 5)
            self.assertEqual(self.assert_recurrence(ring, 0, [base - 1]), [0, 0, 0, 0, 0, 1])
            self.assertEqual(self.assert_recurrence(chain, 0, [base - 1]), [0, 0, 0, 0, 0, 0])
            self.assertEqual(self.assert_recurrence(ring, 0, [base - 1] * 2), [])
            self.assertEqual(self.assert_recurrence(ring, base - 1, [base - 1] * 2), [0, 0, 1])
            both = added(ring, scaled(chain, -1))
            self.assertEqual(self.assert_recurrence(both, 0, [base - 1]), [0] * 5 + [1] + [0] * 6)

    def test_known_ones(self):
        ones, stern = row_named(Book(*ONES), "o"), row_named(Book(*STERN), "s")
        self.assertEqual(recurrence(ones, 0, [1]), [2, -1])
        self.assertEqual(recurrence(ones, 6, [0]), [1])
        self.assertEqual(recurrence(ones, 0, [0]), [])
        self.assertEqual(recurrence(row_named(Book(*ONES), "e"), 0, [1]), [1])
        self.assertEqual(recurrence(stern, 1, [0, 1]), [3, -1])
        self.assertEqual(recurrence(stern, 0, [0, 1]), [3, -1])
        self.assertEqual(recurrence(stern, 0, [1]), [2, -1])
        for base in (2, 3, 4):
            place = row_named(Book(*place_book(base)), "p")
            self.assertEqual(recurrence(place, 1, [0]), [base])
            self.assertEqual(recurrence(place, 0, [1]), [base + 1, -base])
            self.assertEqual(recurrence(place, 3, [0, 1, 1]), [base ** 3 + 1, -base ** 3])

    def test_the_value_for_nought_times_is_not_made_like_the_later_ones(self):
        for base in (2, 3, 4):
            row = row_of(*alone_book(base, 0), [1])
            self.assertEqual(recurrence(row, 0, [1]), [0])
            self.assertEqual(recurrence(row, 0, [0]), [1])
            self.assertEqual(recurrence(row, 1, [1]), [])
            self.assertEqual(recurrence(row, 0, [0, 1]), [0])
            place = row_named(Book(*place_book(base)), "p")
            self.assertEqual(recurrence(added(place, row), 0, [base - 1]), [base + 1, -base, 0])
            alone = row_of(*alone_book(base, base + 1), [4, 0, 0])
            self.assertEqual(recurrence(alone, 0, [1]), [0, 0, 0])
            self.assertEqual(recurrence(alone, 1, [1]), [0, 0])
            self.assertEqual(recurrence(alone, 0, [1, 1]), [0, 0])

    def test_multiples_and_sums_of_rows(self):
        for writing in samples()[:7]:
            row = row_of(*writing)
            for block in blocks_of(writing[0])[::3]:
                told = recurrence(row, 2, block)
                for number in (-1, 7, 10 ** 20):
                    self.assertEqual(recurrence(scaled(row, number), 2, block), told)
                self.assertEqual(recurrence(scaled(row, 0), 2, block), [])
                other = row_named(Book(*place_book(writing[0])), "p")
                self.assert_recurrence(added(row, other), 2, block)

    def test_all_values_are_nought(self):
        for base in (2, 3, 4):
            for row in (nothing(base), Row(Book(*place_book(base)), [0, 0])):
                for head, block in all_of((0, 1, THIRTY), blocks_of(base)):
                    self.assertEqual(recurrence(row, head, block), [])
            chain = row_of(*chain_book(base, 6), [1] + [0] * 5)
            self.assertEqual(recurrence(chain, base ** 4 - 1, [0]), [])
            self.assertEqual(recurrence(chain, base ** 5 - 1, [0]), [1])

    def test_rows_of_great_rank(self):
        for base in (2, 3, 4):
            row = row_of(*coarse_book(base, base, 3), [1, 2, 3])
            for found in (thinned(row, 3, 9), moved(row, 8), product(row, row)):
                self.assert_recurrence(found, 0, [1])
                self.assert_recurrence(found, 5, [0, 1, base - 1, 1])

    def test_great_numbers(self):
        rows = [(name, 0, [[(1, name)], [(9, name) for name in "abcdef"]]) for name in "abcde"]
        rows.append(("f", 99, [[(1, "f")], [(8 - index, name) for index, name in enumerate("abcdef")]]))
        found = self.assert_recurrence(row_of(2, rows, [99, 98, 1, 2, 3, 4]), 10 ** 30, [1, 1, 1, 1])
        self.assertGreaterEqual(len(found), 2)


class Errors(RefusalCase):

    ROWS = [Row(Book(*STERN), [1, 2]), Row(Book(3, []), []), Row(Book(*FOURS), [1, 2, 3])]

    def all_refuse(self, error, value, head, block, times=3, modulus=5, rows=None):
        """Assert that all three refuse, each with as many of the arguments as it takes."""
        before = list(block)
        for row in self.ROWS if rows is None else rows:
            self.refused(error, value, repeated, row, head, block, times)
            self.refused(error, value, far_rest, row, head, block, times, modulus)
            if times >= 0 and modulus >= 1:
                self.refused(error, value, recurrence, row, head, block)
        self.assertEqual(block, before)

    def test_a_negative_head(self):
        for head in (-1, -2, -10 ** 30):
            for block in ([0], [], [9], [0, -1]):
                self.all_refuse(InvalidNumber, head, head, block)
                self.all_refuse(InvalidNumber, head, head, block, times=-7)
                for row in self.ROWS:
                    self.refused(InvalidNumber, head, far_rest, row, head, block, -3, 0)

    def test_a_block_without_figures(self):
        for head in (0, 10 ** 30):
            self.all_refuse(InvalidFigure, None, head, [])
            for row in self.ROWS:
                self.refused(InvalidFigure, None, repeated, row, head, [], -3)
                self.refused(InvalidFigure, None, far_rest, row, head, [], -3, 0)

    def test_the_number_in_the_block_of_the_first_figure_that_there_is_not(self):
        for block, number in [([4], 0), ([-1], 0), ([0, 4], 1), ([1, 0, -1, 9], 2), ([1, 1, 1, 10 ** 30], 3),
                              ([9, 9, 0], 0), ([0, -2, 0, 9], 1), ([0, 0, 0, 0, 4], 4)]:
            self.all_refuse(InvalidFigure, number, 5, block)
            for row in self.ROWS:
                self.refused(InvalidFigure, number, repeated, row, 0, block, -3)
                self.refused(InvalidFigure, number, far_rest, row, 0, block, -3, 0)

    def test_figures_by_the_base_of_the_row(self):
        for base in (2, 3, 4):
            rows = [Row(Book(base, []), []), row_named(Book(*place_book(base)), "p")]
            for number in range(4):
                block = [base - 1] * number
                self.all_refuse(InvalidFigure, number, 1, block + [base] + block, rows=rows)
            for row in rows:
                for figure in range(base):
                    repeated(row, 1, [figure], 2), far_rest(row, 1, [figure], 2, 3), recurrence(row, 1, [figure])

    def test_negative_times(self):
        for times in (-1, -30, -10 ** 30):
            for row in self.ROWS:
                self.refused(InvalidNumber, times, repeated, row, 0, [1], times)
                for modulus in (1, 0, -5):
                    self.refused(InvalidNumber, times, far_rest, row, 0, [1], times, modulus)

    def test_a_modulus_that_is_less_than_one(self):
        for modulus in (0, -1, -10 ** 12):
            for row in self.ROWS:
                for times in (0, 1, 10 ** 30):
                    self.refused(InvalidNumber, modulus, far_rest, row, 0, [1], times, modulus)

    def test_an_error_changes_nothing(self):
        row, block = Row(Book(*ONES), [1, 2]), [1, 2]
        for function, more in ((repeated, [3]), (far_rest, [3, 4]), (recurrence, [])):
            self.assertRaises(InvalidFigure, function, row, 1, block, *more)
        self.assertEqual((row, block), (Row(Book(*ONES), [1, 2]), [1, 2]))
        self.assertEqual(row.first_values(4), [2, 3, 3, 4])


class Arguments(unittest.TestCase):

    def test_arguments_by_name(self):
        row = row_named(Book(*STERN), "s")
        self.assertEqual(repeated(times=3, block=[0, 1], head=1, row=row), 21)
        self.assertEqual(far_rest(modulus=10, times=3, block=[0, 1], head=1, row=row), 1)
        self.assertEqual(recurrence(block=[0, 1], head=1, row=row), [3, -1])
        with self.assertRaises(InvalidNumber) as context:
            far_rest(modulus=0, times=-2, block=[1], head=0, row=row)
        self.assertEqual(context.exception.value, -2)

    def test_nothing_that_was_passed_is_modified(self):
        for base, rows in copy.deepcopy(BOOKS):
            told, block = [4, 6, 9][:len(rows)], [1, 0, 1]
            row = row_of(base, rows, told)
            repeated(row, 3, block, 5), far_rest(row, 3, block, 10 ** 30, 7), recurrence(row, 3, block)
            self.assertEqual(row, row_of(base, rows, told))
            self.assertEqual(block, [1, 0, 1])

    def test_what_was_returned_may_be_changed(self):
        row = row_named(Book(*STERN), "s")
        found = recurrence(row, 1, [0, 1])
        found.append(7)
        found[0] = 5
        self.assertEqual(recurrence(row, 1, [0, 1]), [3, -1])
        self.assertIsNot(recurrence(row, 1, [0, 1]), recurrence(row, 1, [0, 1]))

    def test_alike_rows(self):
        for writing in samples()[:11]:
            row = row_of(*writing)
            others = [row_of(*turned(*writing)), row_of(*with_idle(*writing)), plain(row)]
            for other in others:
                self.assertEqual(recurrence(other, 2, [1, 0]), recurrence(row, 2, [1, 0]))
                self.assertEqual(repeated(other, 2, [1, 0], 30), repeated(row, 2, [1, 0], 30))
                self.assertEqual(far_rest(other, 2, [1, 0], 10 ** 30, 999), far_rest(row, 2, [1, 0], 10 ** 30, 999))

    def test_the_listed_functions_are_defined_in_their_file(self):
        for name in ("repeated", "far_rest", "recurrence"):
            self.assertEqual(getattr(repeats, name).__module__, "figurebooks.repeats")


if __name__ == "__main__":
    unittest.main()

"""The interface of `last_place` and `alike_from`, and promises [2], [3], [5], [6] and [7] for them."""

import copy
import unittest
from itertools import product

from figurebooks import ends
from figurebooks.books import Book
from figurebooks.ends import alike_from, last_place
from figurebooks.errors import UnlikeBases
from figurebooks.forms import plain
from figurebooks.joins import added, moved, scaled
from figurebooks.rows import Row, row_named
from figurebooks.totals import totals_of
from tests.bases import BaseCase, nothing
from tests.examples import ExampleCase
from tests.references import walked_sum
from tests.samples import BOOKS, MIXED, ONES, STERN
from tests.samples import alone_book, chain_book, coarse_book, coarse_coefficients, falling_book
from tests.samples import place_book, ring_book, sound_book
from tests.writings import relettered, renamed, row_of, turned, with_idle, writings_of

# Word for word as in the interface.
EXAMPLE = """
>>> from figurebooks.books import Book
>>> from figurebooks.ends import alike_from, last_place
>>> from figurebooks.parting import are_alike, classes, parting
>>> from figurebooks.relations import relations
>>> from figurebooks.rows import Row, row_named
>>> stern = Book(2, [("s", 0, [[(1, "s")], [(1, "s"), (1, "t")]]), ("t", 1, [[(1, "s"), (1, "t")], [(1, "t")]]), ("z", 1, [[(1, "z")], []])])
>>> first, second, nought = row_named(stern, "s"), row_named(stern, "t"), row_named(stern, "z")
>>> [parting(first, second), are_alike(first, Row(stern, [1, 0, 0])), classes([first, second, first]), relations([first, second, Row(stern, [1, 1, 0])]), last_place(nought), last_place(first), last_place(Row(stern, [0, 0, 0])), alike_from(Row(stern, [1, 0, 3]), first), alike_from(first, second)]
[(0, -1), True, [[0, 2], [1]], [[1, 1, -1]], 0, None, -1, 1, None]
"""

ONE_BY_ONE = [0, 1, 2, 3, 4, 5, 7, 8, 9, 15, 16, 26, 27, 60, 63, 64, 255, 256, 257, 1000]


def walked_end(base, values, count):
    """Return the last place of the first values of a row of a book with so many rows.

    There must be base ** (2 * count) values. A row that ends is 0 from base ** (count - 1) on; one that
    does not is not 0 at some of the places behind that have up to twice as many figures as the book rows.
    """
    assert len(values) == base ** (2 * count)
    places = [place for place, value in enumerate(values) if value != 0]
    if not places:
        return -1
    return places[-1] if places[-1] < base ** count else None


def many_alone(base, places, coefficients):
    """Write the row that has just these values at just these places, with no more rows than it needs."""
    prefixes = []
    for place in places:
        while place not in prefixes:
            prefixes.append(place)
            place //= base
    names = dict(zip(prefixes, "abcdefghijklmnopqrstuvwxyz"))
    rows = []
    for prefix, name in names.items():
        formulas = [[(1, names[prefix // base])] if figure == prefix % base else [] for figure in range(base)]
        rows.append((name, int(prefix == 0), formulas))
    told = dict(zip(places, coefficients))
    return base, rows, [told.get(prefix, 0) for prefix in prefixes]


class Example(ExampleCase):

    def test_the_example_of_the_interface(self):
        self.assert_example(EXAMPLE)


class EndCase(unittest.TestCase):

    def assert_last(self, expected, base, rows, coefficients):
        """Assert the last place of a row, and of other rows that are 0 just where it is."""
        row = row_of(base, rows, coefficients)
        with self.subTest(base=base, rows=rows, coefficients=coefficients):
            self.assertEqual(last_place(row), expected)
            self.assertEqual(last_place(plain(row)), expected)
            self.assertEqual(last_place(Row(row.book, [-3 * number for number in coefficients])), expected)
            self.assertEqual(last_place(row_of(*with_idle(base, rows, coefficients))), expected)
            self.assertEqual(last_place(row_of(*turned(*renamed(base, rows, coefficients)))), expected)
            self.assert_from(None if expected is None else expected + 1, row, nothing(base))

    def assert_from(self, expected, row, other_row):
        """Assert from where on two rows are equal, either way about."""
        self.assertEqual(alike_from(row, other_row), expected)
        self.assertEqual(alike_from(other_row, row), expected)


class ByWalking(EndCase):

    def test_rows_that_refer_to_rows_ahead_alone(self):
        far = 0
        for seed in range(45):
            base, count = 2 + seed % 3, 2 + seed // 3 % 2
            rows = falling_book(seed, base, count)[1]
            for coefficients in [[0] * (count - 1) + [1], coarse_coefficients(seed, count)]:
                values = walked_sum(base, rows, coefficients, base ** (2 * count))
                expected = walked_end(base, values, count)
                self.assertIsNotNone(expected)
                far += expected >= base
                self.assert_last(expected, base, rows, coefficients)
        self.assertGreater(far, 30)

    def test_six_of_such_rows(self):
        far = 0
        for seed in range(24):
            base = 2 + seed % 3
            rows = falling_book(seed, base, 6)[1]
            for coefficients in ([0, 0, 0, 0, 0, 1], coarse_coefficients(seed, 6)):
                # That these rows do end is told by their formulas.
                values = walked_sum(base, rows, coefficients, base ** 6)
                expected = max([place for place, value in enumerate(values) if value != 0])
                self.assertLess(expected, base ** 5)
                far += expected >= base ** 4
                self.assert_last(expected, base, rows, coefficients)
        self.assertGreater(far, 30)

    def test_books_of_which_some_rows_end_and_others_do_not(self):
        kinds = {True: 0, False: 0}
        for seed in range(60):
            base = 2 + seed % 3
            rows = falling_book(seed, base, 2)[1] + chain_book(base, 1, last_factor=seed % 2)[1]
            for coefficients in ([1, 2, 0], [0, 1, 0], [0, 0, 1], [4, -1, 2]):
                expected = walked_end(base, walked_sum(base, rows, coefficients, base ** 6), 3)
                kinds[expected is None] += 1
                self.assert_last(expected, base, rows, coefficients)
        self.assertGreater(min(kinds.values()), 50)

    def test_many_books(self):
        for seed in range(30):
            base, rows = coarse_book(seed, 2 + seed % 3, 3)
            coefficients = coarse_coefficients(seed, 3)
            values = walked_sum(base, rows, coefficients, base ** 6)
            self.assert_last(walked_end(base, values, 3), base, rows, coefficients)

    def test_all_small_books_of_two_rows(self):
        # Each formula is empty or one row: all ways to do so in base 2 with sound starts.
        choices = [[], [(1, "a")], [(1, "b")], [(-1, "a")], [(1, "a"), (-1, "b")]]
        kinds = {}
        for formulas in product(choices, repeat=4):
            for starts in product((0, 1), repeat=2):
                named = dict(zip("ab", starts))
                first = [sum(c * named[other] for c, other in formulas[k]) for k in (0, 2)]
                if first == list(starts):
                    rows = [("a", starts[0], list(formulas[:2])), ("b", starts[1], list(formulas[2:]))]
                    for coefficients in ([1, 0], [2, -2]):
                        expected = walked_end(2, walked_sum(2, rows, coefficients, 16), 2)
                        self.assertEqual(last_place(row_of(2, rows, coefficients)), expected)
                        kinds[expected] = kinds.get(expected, 0) + 1
        self.assertEqual(sorted(kinds, key=str), [-1, 0, 1, None])


class AlwaysNought(EndCase):

    def test_rows_that_are_always_nought(self):
        same = [("x", 1, [[(1, "x")]] * 2), ("y", 1, [[(1, "y")]] * 2)]
        none = [("x", 0, [[(2, "x")], [(1, "y")]]), ("y", 0, [[(9, "x")], [(-9, "y"), (1, "x")]])]
        for base in (2, 3, 4):
            self.assert_last(-1, base, [], [])
            self.assert_last(-1, base, place_book(base)[1], [0, 0])
        self.assert_last(-1, 2, same, [7, -7])
        self.assert_last(-1, 2, none, [3, 4])

    def test_multiples_of_named_rows_that_cancel_each_other(self):
        for base in (2, 3, 4):
            rows = place_book(base)[1]
            more = renamed(base, rows, [0, 0])[1]
            self.assert_last(-1, base, rows + more, [3, -5, -3, 5])
            self.assert_last(-1, base, rows + more, [1, 0, -1, 0])
            self.assert_last(None, base, rows + more, [1, 0, -1, 1])


class OneByOne(EndCase):

    def test_rows_that_are_one_at_one_place_alone(self):
        for base in (2, 3, 4):
            for place in ONE_BY_ONE:
                rows = alone_book(base, place)[1]
                self.assert_last(place, base, rows, [1] + [0] * (len(rows) - 1))

    def test_their_rows_are_what_they_are_said_to_be(self):
        for base in (2, 3, 4):
            for place in ONE_BY_ONE[:16]:
                rows = alone_book(base, place)[1]
                values = walked_sum(base, rows, [1] + [0] * (len(rows) - 1), 100)
                self.assertEqual(values, [int(other == place) for other in range(100)])

    def test_a_place_of_many_figures(self):
        for base, places in ((2, [2 ** 24, 2 ** 25 - 1, 23456789]), (4, [4 ** 24, 4 ** 25 - 1, 2 * 4 ** 24 + 9])):
            for place in places:
                rows = alone_book(base, place)[1]
                row = row_of(base, rows, [1] + [0] * (len(rows) - 1))
                self.assertEqual(last_place(row), place)
                self.assertEqual(last_place(added(row, row)), place)
                self.assert_from(place + 1, row, scaled(row, 2))

    def test_sums_of_multiples_of_them(self):
        for base in (2, 3, 4):
            for places, coefficients in [([5, 9], [2, 3]), ([5, 9], [2, 0]), ([0, 40, 41], [1, -1, 5]),
                                         ([0, 40, 41], [1, -1, 0]), ([0, 40, 41], [7, 0, 0]),
                                         ([0, 40, 41], [0, 0, 0]), ([63, 62, 61], [0, 0, 4]), ([1, 0], [0, 3])]:
                told = dict(zip(places, coefficients))
                expected = max([place for place in places if told[place] != 0], default=-1)
                writing = many_alone(base, places, coefficients)
                self.assertEqual(walked_sum(*writing, 70), [told.get(place, 0) for place in range(70)])
                self.assert_last(expected, *writing)

    def test_values_at_the_greatest_place_that_cancel(self):
        # Two writings of the row that is 1 at place 6, and further on in the books 1 at place 5 or 4.
        for base in (2, 3, 4):
            one, other = many_alone(base, [6, 5], [1, 1]), many_alone(base, [6, 4], [1, 1])
            both = one[1] + relettered(other[1], "nopqrstuvwxyz")
            for factor, expected in ((-1, 5), (-2, 6), (0, 6)):
                self.assert_last(expected, base, both, one[2] + [factor * number for number in other[2]])
            five = [int(index == one[2].index(1, 1)) for index in range(len(one[2]))]
            one_less = [number - 5 * own for number, own in zip(one[2], five)]
            self.assert_last(5, base, both, one_less + [-number for number in other[2]])
            no_five = [number - own for number, own in zip(one[2], five)]
            self.assert_last(4, base, both, no_five + [-number for number in other[2]])


class NeverEnding(EndCase):

    def test_rows_that_never_end(self):
        for base, rows in [ONES, STERN, MIXED, place_book(4), sound_book(3, 2), coarse_book(2, 3, 3)]:
            for index in range(len(rows)):
                coefficients = [int(other == index) for other in range(len(rows))]
                values = walked_sum(base, rows, coefficients, base ** 7)
                if any(values[base ** 6:]):
                    self.assert_last(None, base, rows, coefficients)
        self.assert_last(None, *ONES, [1, 0])
        self.assert_last(None, *MIXED, [0, 1, 0])

    def test_rows_that_are_nought_far_out_but_at_few_places(self):
        # 1 at the powers of the base alone, and where the greatest figure stands just five times.
        for base in (2, 3, 4):
            rows = [("i", 0, [[(1, "i")], [(1, "z")]] + [[]] * (base - 2)), alone_book(base, 0)[1][0]]
            self.assert_last(None, base, rows, [1, 0])
            self.assert_last(None, base, rows, [-2, 5])
            self.assert_last(0, base, rows, [0, 5])
            chain = chain_book(base, 6)[1]
            self.assert_last(None, base, chain, [1, 0, 0, 0, 0, 0])
            self.assertEqual(row_of(base, chain, [1] + [0] * 5).first_values(base ** 5 - 1), [0] * (base ** 5 - 1))

    def test_rows_that_are_nought_for_long_stretches_again_and_again(self):
        # 1 where the number of figures is divided by 5, and 0 at all other places.
        for base in (2, 3, 4):
            names = "abcde"
            rows = [("z", 1, [[(1, "z")]] + [[]] * (base - 1))]
            for index, name in enumerate(names):
                after = [(1, names[(index + 1) % 5])]
                ahead = [(1, "z")] if index == 4 else []
                rows.append((name, 0, [after] + [after + ahead] * (base - 1)))
            row = row_of(base, rows, [0, 1, 0, 0, 0, 0])
            values = [row.value_at(base ** exponent) for exponent in range(20)]
            self.assertEqual([exponent + 1 for exponent in range(20) if values[exponent]], [5, 10, 15, 20])
            for index in range(1, 6):
                self.assert_last(None, base, rows, [int(other == index) for other in range(6)])

    def test_rows_that_are_nought_ahead_of_where_they_begin(self):
        for base in (2, 3, 4):
            chain = chain_book(base, 6, last_factor=1)[1]
            self.assert_last(None, base, chain, [1, 0, 0, 0, 0, 0])
            ring = ring_book(base, 6)[1]
            self.assert_last(None, base, ring, [1, 0, 0, 0, 0, 0])

    def test_only_named_rows_that_play_no_part_go_on(self):
        for base in (2, 3, 4):
            for place in (0, 3, 30):
                alone = relettered(alone_book(base, place)[1], "bcdefg")
                rows = [("p", 0, place_book(base)[1][0][2]), ("u", 1, [[(1, "u")]] * base)] + alone
                some = [0] * (len(alone) - 1)
                self.assert_last(place, base, rows, [0, 0, 3] + some)
                self.assert_last(None, base, rows, [0, 1, 3] + some)
                self.assert_last(None, base, rows, [1, 0, 3] + some)


class AlikeFrom(EndCase):

    def test_a_row_and_itself(self):
        for base, rows in BOOKS + [(2, []), (3, []), (4, [])]:
            row = row_of(base, rows, [3, -1, 5][:len(rows)])
            self.assert_from(0, row, row)
            self.assert_from(0, row, row_of(base, rows, [3, -1, 5][:len(rows)]))

    def test_alike_rows_of_unlike_books(self):
        for base, rows in BOOKS + [falling_book(5, 3, 4)]:
            coefficients = [4, 6, -3, 1][:len(rows)]
            row = row_of(base, rows, coefficients)
            for writing in writings_of(base, rows, coefficients):
                self.assert_from(0, row, row_of(*writing))

    def test_rows_that_part_at_few_places_alone(self):
        for base, rows in BOOKS + [place_book(2), place_book(3), place_book(4)]:
            coefficients = [4, 6, -3][:len(rows)]
            for seed in range(4):
                fall = falling_book(seed, base, 3)[1]
                whole = rows + fall
                for ends_in in ([0, 0, 1], [1, -2, 0], [3, 1, -1], [1, 0, 0]):
                    values = walked_sum(base, fall, ends_in, base ** 6)
                    expected = walked_end(base, values, 3) + 1
                    one = row_of(base, whole, coefficients + ends_in)
                    self.assert_from(expected, one, row_of(base, whole, coefficients + [0, 0, 0]))
                    self.assert_from(expected, one, row_of(base, rows, coefficients))
                    self.assert_from(expected, one, row_of(*with_idle(base, rows, coefficients)))
                    self.assert_from(expected, one, plain(row_of(base, rows, coefficients)))

    def test_rows_of_two_books_by_walking(self):
        kinds = {True: 0, False: 0}
        for seed in range(40):
            base = 2 + seed % 2
            one = (base, falling_book(seed, base, 2)[1] + chain_book(base, 1)[1], [1, 2, seed % 3])
            other = (base, chain_book(base, 1)[1] + falling_book(seed + 1, base, 2)[1], [seed // 3 % 3, 2, 1])
            values = walked_sum(*one, base ** 6)
            pairs = zip(values, walked_sum(*other, base ** 6))
            # Both books have the same last row and the same row that is 1 at place 0: four unlike rows.
            unlike = [place for place, (value, other_value) in enumerate(pairs) if value != other_value]
            ends_here = all(place < base ** 3 for place in unlike)
            kinds[ends_here] += 1
            expected = max(unlike, default=-1) + 1 if ends_here else None
            self.assert_from(expected, row_of(*one), row_of(*other))
        self.assertGreater(min(kinds.values()), 10)

    def test_rows_that_part_again_and_again(self):
        book = Book(*STERN)
        first, second = row_named(book, "s"), row_named(book, "t")
        self.assert_from(None, first, second)
        self.assert_from(None, first, nothing(2))
        self.assert_from(None, first, scaled(first, 2))
        self.assert_from(None, first, moved(first, 3))
        for base in (2, 3, 4):
            ring, chain = row_of(*ring_book(base, 6), [1] + [0] * 5), row_of(*chain_book(base, 6), [1] + [0] * 5)
            self.assert_from(None, ring, chain)
            self.assert_from(None, totals_of(chain), chain)

    def test_they_part_far_out_for_the_last_time(self):
        for base in (2, 3, 4):
            rows = alone_book(base, base ** 5 - 1)[1]
            one = row_of(base, rows, [2] + [0] * 5)
            self.assert_from(base ** 5, one, nothing(base))
            self.assert_from(base ** 5, one, row_of(base, rows, [1] + [0] * 5))
            self.assert_from(base ** 4, one, row_of(base, rows, [2, 1] + [0] * 4))
            self.assert_from(base ** 5, one, row_of(*alone_book(base, base ** 4), [2] + [0] * 5))
            place = row_named(Book(*place_book(base)), "p")
            self.assert_from(base ** 5, added(one, place), place)
            self.assert_from(base ** 5 - 9, moved(one, 9), nothing(base))

    def test_two_books_of_six_rows(self):
        for seed in range(9):
            base = 2 + seed % 3
            one = falling_book(seed, base, 6) + ([0, 0, 0, 1, 2, 3],)
            other = falling_book(seed + 1, base, 6) + ([1, 1, 0, 2, 5, -1],)
            pairs = enumerate(zip(walked_sum(*one, base ** 5), walked_sum(*other, base ** 5)))
            expected = max([place for place, (value, told) in pairs if value != told]) + 1
            self.assert_from(expected, row_of(*one), row_of(*other))


class BaseCheck(BaseCase):

    def test_two_rows_of_unlike_bases(self):
        self.assert_base_check_of_two(alike_from)


class Arguments(unittest.TestCase):

    def test_arguments_by_name(self):
        row, other_row = row_of(*alone_book(2, 5), [1, 0, 0, 0]), row_of(*alone_book(2, 9), [1, 0, 0, 0, 0])
        self.assertEqual(last_place(row=row), 5)
        self.assertEqual(alike_from(other_row=other_row, row=row), 10)
        with self.assertRaises(UnlikeBases) as context:
            alike_from(other_row=nothing(3), row=row)
        self.assertEqual(context.exception.value, (2, 3))

    def test_nothing_that_was_passed_is_modified(self):
        for base, rows in copy.deepcopy(BOOKS) + [falling_book(3, 2, 5)]:
            told = [4, 6, 9, 1, 1][:len(rows)]
            row, other_row = row_of(base, rows, told), row_of(base, rows, told[:-1] + [8])
            last_place(row), alike_from(row, other_row)
            self.assertEqual(row, row_of(base, rows, told))
            self.assertEqual(other_row, row_of(base, rows, told[:-1] + [8]))

    def test_what_is_returned_is_an_integer_or_none(self):
        for base, rows, coefficients in [alone_book(2, 9) + ([1, 0, 0, 0, 0],), place_book(3) + ([0, 0],)]:
            row = row_of(base, rows, coefficients)
            self.assertIs(type(last_place(row)), int)
            self.assertIs(type(alike_from(row, nothing(base))), int)
        self.assertIsNone(last_place(row_named(Book(*ONES), "e")))

    def test_what_was_returned_may_be_passed_on(self):
        row = row_of(*falling_book(4, 3, 6), [0, 0, 0, 0, 0, 1])
        last = last_place(row)
        self.assertNotEqual(row.value_at(last), 0)
        self.assertEqual(row.value_at(last + 1), 0)
        self.assertEqual(moved(row, alike_from(row, nothing(3))), Row(Book(3, []), []))

    def test_the_listed_functions_are_defined_in_their_file(self):
        for name in ("last_place", "alike_from"):
            self.assertEqual(getattr(ends, name).__module__, "figurebooks.ends")


if __name__ == "__main__":
    unittest.main()

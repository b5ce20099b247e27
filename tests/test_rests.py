"""The interface of `first_rest`, `count_rest` and `rests_of`, and promises [2], [3] and [5] for them."""

import copy
import unittest
from collections import Counter

from figurebooks import rests
from figurebooks.books import Book
from figurebooks.errors import InvalidNumber, InvalidRest
from figurebooks.forms import plain, rank_of
from figurebooks.joins import added, moved, part, scaled
from figurebooks.rests import count_rest, first_rest, rests_of
from figurebooks.rows import Row, row_named
from tests.bases import nothing
from tests.examples import ExampleCase
from tests.references import walked_sum
from tests.refusals import RefusalCase
from tests.samples import BOOKS, MIXED, ONES, STERN
from tests.samples import alone_book, chain_book, coarse_book, coarse_coefficients, falling_book
from tests.samples import place_book, ring_book, telling_places
from tests.writings import row_of, turned, with_idle

# Of the example in the interface what is of this file, word for word.
EXAMPLE = """
>>> from figurebooks.books import Book
>>> from figurebooks.rests import count_rest, first_rest, rests_of
>>> from figurebooks.rows import row_named
>>> stern = Book(2, [("s", 0, [[(1, "s")], [(1, "s"), (1, "t")]]), ("t", 1, [[(1, "s"), (1, "t")], [(1, "t")]])])
>>> first = row_named(stern, "s")
>>> [first_rest(first, 3, 2), count_rest(first, 2, 0, 9), rests_of(first, 2)]
[3, 4, [0, 1]]
"""

MODULI = range(1, 13)
FAR = [10 ** 29, 10 ** 30 - 1, 10 ** 30, 123456789012345678901234567890, 2 ** 99, 3 ** 62 - 1, 4 ** 49 + 1]


def samples():
    """Return writings of rows that callers may ask for all remainders by the moduli from 1 to 12."""
    found = [(base, rows, [3, -1, 5][:len(rows)]) for base, rows in BOOKS]
    found += [place_book(base) + ([1, 0],) for base in (2, 3, 4)]
    found += [coarse_book(seed, 2 + seed % 3, 3) + (coarse_coefficients(seed, 3),) for seed in range(6)]
    found += [with_idle(*alone_book(3, 7), [-1, 0, 2]), falling_book(3, 4, 3) + ([-5, 1, 2],)]
    found += [(base, [], []) for base in (2, 3, 4)]
    return found


class Stands:
    """The remainders of a book's named rows by a modulus, walked figure by figure and counted by last figures."""

    def __init__(self, base, rows, coefficients, modulus):
        self.base, self.rows, self.coefficients, self.modulus = base, rows, coefficients, modulus
        self.start = tuple(start % modulus for _, start, _ in rows)
        self.steps = {}
        self.counts = {0: Counter()}
        self.ends = {0: self.start}

    def stepped(self, stand, figure):
        if (stand, figure) not in self.steps:
            values = dict(zip([name for name, _, _ in self.rows], stand))
            self.steps[stand, figure] = tuple(
                sum(factor * values[name] for factor, name in formulas[figure]) % self.modulus
                for _, _, formulas in self.rows
            )
        return self.steps[stand, figure]

    def rest_of(self, stand):
        return sum(factor * value for factor, value in zip(self.coefficients, stand)) % self.modulus

    def firsts(self):
        """Return the first place of each remainder: walk places with more and more figures.

        Places that have the stand of a lesser one are left out: what they lead to, that one led to before.
        """
        firsts, level = {self.start: 0}, [0]
        while level:
            walked = [self.base * place + figure for place in level for figure in range(self.base)]
            level = []
            for place in walked:
                stand = self.at(place)
                if stand not in firsts:
                    firsts[stand] = place
                    level.append(place)
        found = {}
        for stand, place in firsts.items():
            rest = self.rest_of(stand)
            found[rest] = min(place, found.get(rest, place))
        return found

    def below(self, number):
        """Count the stands of all places below a number by those of all places without the last figure."""
        if number not in self.counts:
            shorter, figure = divmod(number, self.base)
            found = Counter()
            for stand, count in self.below(shorter).items():
                for last in range(self.base):
                    found[self.stepped(stand, last)] += count
            for last in range(figure):
                found[self.stepped(self.at(shorter), last)] += 1
            self.counts[number] = found
        return self.counts[number]

    def at(self, number):
        if number not in self.ends:
            self.ends[number] = self.stepped(self.at(number // self.base), number % self.base)
        return self.ends[number]

    def count(self, rest, number):
        """Count the places from 0 to a number with a remainder."""
        return sum(count for stand, count in self.below(number + 1).items() if self.rest_of(stand) == rest)


class Example(ExampleCase):

    def test_the_example_of_the_interface(self):
        self.assert_example(EXAMPLE)


class RestCase(unittest.TestCase):

    def assert_rests(self, base, rows, coefficients, modulus):
        """Assert the first places of all remainders, and which of them come, against a walk."""
        row = row_of(base, rows, coefficients)
        firsts = Stands(base, rows, coefficients, modulus).firsts()
        with self.subTest(base=base, rows=rows, coefficients=coefficients, modulus=modulus):
            found = [first_rest(row, modulus, rest) for rest in range(modulus)]
            self.assertEqual(found, [firsts.get(rest) for rest in range(modulus)])
            self.assertEqual(rests_of(row, modulus), sorted(firsts))
        return firsts


class ByWalking(RestCase):

    def test_all_remainders_of_all_moduli(self):
        never, negative = 0, 0
        for writing in samples():
            negative += min(walked_sum(*writing, 60)) < 0
            for modulus in MODULI:
                never += len(self.assert_rests(*writing, modulus)) < modulus
        self.assertGreater(never, 30)
        self.assertGreater(negative, 5)

    def test_the_first_places_that_a_plain_walk_finds(self):
        for writing in samples():
            values = walked_sum(*writing, 300)
            row = row_of(*writing)
            for modulus in MODULI:
                told = [value % modulus for value in values]
                for rest in range(modulus):
                    if rest in told:
                        self.assertEqual(first_rest(row, modulus, rest), told.index(rest))
                self.assertEqual(rests_of(row, modulus), sorted(set(told) | set(rests_of(row, modulus))))

    def test_counts_that_a_plain_walk_finds(self):
        for writing in samples():
            values = walked_sum(*writing, 100)
            row = row_of(*writing)
            for modulus in (1, 2, 3, 5, 7, 12):
                for number in (0, 1, 2, 4, 15, 16, 26, 63, 64, 99):
                    told = Counter(value % modulus for value in values[:number + 1])
                    found = [count_rest(row, modulus, rest, number) for rest in range(modulus)]
                    with self.subTest(writing=writing, modulus=modulus, number=number):
                        self.assertEqual(found, [told[rest] for rest in range(modulus)])


class Counts(RestCase):

    def test_far_places(self):
        for writing in samples():
            row = row_of(*writing)
            for modulus in (2, 3, 4, 5, 7):
                stands = Stands(*writing, modulus)
                for number in FAR[:4]:
                    for rest in (0, 1, modulus - 1):
                        with self.subTest(writing=writing, modulus=modulus, number=number, rest=rest):
                            self.assertEqual(count_rest(row, modulus, rest, number), stands.count(rest, number))

    def test_next_to_powers_of_the_base(self):
        for base, rows, coefficients in (STERN + ([1, 0],), MIXED + ([1, 2, 3],), place_book(4) + ([3, 1],)):
            row = row_of(base, rows, coefficients)
            stands = Stands(base, rows, coefficients, 5)
            for number in telling_places(base)[70::5]:
                for rest in range(5):
                    self.assertEqual(count_rest(row, 5, rest, number), stands.count(rest, number))

    def test_what_these_tests_compare_with(self):
        for writing in samples()[:8]:
            values = walked_sum(*writing, 90)
            stands = Stands(*writing, 6)
            for number in range(90):
                for rest in range(6):
                    expected = [value % 6 for value in values[:number + 1]].count(rest)
                    self.assertEqual(stands.count(rest, number), expected)

    def test_number_nought(self):
        for writing in samples():
            row = row_of(*writing)
            for modulus in (1, 2, 7, 12):
                told = row.value_at(0) % modulus
                found = [count_rest(row, modulus, rest, 0) for rest in range(modulus)]
                self.assertEqual(found, [int(rest == told) for rest in range(modulus)])

    def test_all_remainders_together(self):
        for writing in samples():
            row = row_of(*writing)
            for modulus in MODULI:
                for number in FAR[1:3]:
                    found = [count_rest(row, modulus, rest, number) for rest in range(modulus)]
                    self.assertEqual(sum(found), number + 1)

    def test_one_place_more(self):
        for writing in samples():
            row = row_of(*writing)
            for modulus in (2, 3, 10):
                for number in FAR[:3]:
                    told = row.value_at(number) % modulus
                    for rest in range(modulus):
                        more = count_rest(row, modulus, rest, number) - count_rest(row, modulus, rest, number - 1)
                        self.assertEqual(more, int(rest == told))

    def test_places_with_each_last_figure(self):
        for writing in samples():
            row = row_of(*writing)
            base = writing[0]
            for number in FAR[:3]:
                for rest in range(3):
                    parts = [count_rest(part(row, figure), 3, rest, number) for figure in range(base)]
                    self.assertEqual(count_rest(row, 3, rest, base * number + base - 1), sum(parts))

    def test_the_place_itself(self):
        for base in (2, 3, 4):
            row = row_named(Book(*place_book(base)), "p")
            for modulus in MODULI:
                self.assertEqual(rests_of(row, modulus), list(range(modulus)))
                for rest in range(modulus):
                    self.assertEqual(first_rest(row, modulus, rest), rest)
                    for number in [0, modulus] + FAR:
                        expected = (number - rest) // modulus + 1
                        self.assertEqual(count_rest(row, modulus, rest, number), expected)

    def test_odd_numbers_in_stern_and_how_many_ones(self):
        # Stern's row is even just at the places that 3 divides; half of all numbers have an odd number of ones.
        for number in FAR + [0, 1, 2, 3]:
            self.assertEqual(count_rest(row_named(Book(*STERN), "s"), 2, 0, number), number // 3 + 1)
        for exponent in range(1, 100):
            self.assertEqual(count_rest(row_named(Book(*ONES), "o"), 2, 1, 2 ** exponent - 1), 2 ** (exponent - 1))


class FarOut(RestCase):

    def test_a_remainder_that_comes_where_the_greatest_figure_stands_often(self):
        for base in (2, 3, 4):
            for modulus in (2, 3, 4):
                row = row_of(*chain_book(base, 6), [modulus + 1, 0, 0, 0, 0, 0])
                self.assertEqual(first_rest(row, modulus, 1), base ** 5 - 1)
                self.assertEqual(first_rest(row, modulus, 0), 0)
                self.assertEqual(rests_of(row, modulus), [0, 1])
                self.assertEqual(count_rest(row, modulus, 1, base ** 5 - 2), 0)
                self.assertEqual(count_rest(row, modulus, 1, base ** 5 - 1), 1)
                # One of six figures is not the greatest one: 0 ahead is no figure, but counts among these.
                self.assertEqual(count_rest(row, modulus, 1, base ** 6 - 1), 6 * (base - 1))

    def test_twelve_rows(self):
        for base in (2, 3, 4):
            ring, chain = row_of(*ring_book(base, 6), [1] + [0] * 5), row_of(*chain_book(base, 6), [1] + [0] * 5)
            row = added(ring, scaled(chain, -1))
            self.assertEqual(rank_of(row), 12)
            self.assertEqual(first_rest(row, 2, 1), base ** 11 - 1)
            self.assertEqual(rests_of(row, 2), [0, 1])
            self.assertEqual(count_rest(row, 2, 1, base ** 11 - 2), 0)
            self.assertEqual(count_rest(row, 2, 1, base ** 11 - 1), 1)
            self.assertEqual(count_rest(row, 2, 1, base ** 12 - 1), 12 * (base - 1))

    def test_a_place_alone(self):
        for base in (2, 3, 4):
            for place in (5, 60, 200):
                rows = alone_book(base, place)[1]
                if len(rows) <= 5:
                    row = row_of(base, rows, [3] + [0] * (len(rows) - 1))
                    self.assertEqual(first_rest(row, 5, 3), place)
                    self.assertEqual([count_rest(row, 5, 3, number) for number in (place - 1, place, 10 ** 30)],
                                     [0, 1, 1])
                    self.assertEqual([count_rest(row, 5, 0, number) for number in (place - 1, place, 10 ** 30)],
                                     [place, place, 10 ** 30])
                    self.assertIsNone(first_rest(row, 5, 1))


class NearTheBound(RestCase):

    def test_three_rows_and_the_modulus_seven(self):
        ranks = []
        for seed in range(12):
            writing = coarse_book(seed, 2 + seed % 3, 3) + (coarse_coefficients(seed, 3),)
            ranks.append(rank_of(row_of(*writing)))
            self.assert_rests(*writing, 7)
            stands = Stands(*writing, 7)
            for number in FAR:
                for rest in range(7):
                    self.assertEqual(count_rest(row_of(*writing), 7, rest, number), stands.count(rest, number))
        self.assertEqual(max(ranks), 3)

    def test_as_many_stands_as_there_may_be(self):
        for count, modulus in ((1, 12), (2, 12), (3, 12), (4, 8), (5, 5), (6, 4)):
            for base in (2, 3, 4):
                writing = coarse_book(count + base, base, count) + ([1, 2, 3, 4, 5, 7][:count],)
                self.assert_rests(*writing, modulus)
                stands = Stands(*writing, modulus)
                for rest in (0, 1):
                    self.assertEqual(count_rest(row_of(*writing), modulus, rest, 10 ** 30),
                                     stands.count(rest, 10 ** 30))

    def test_books_of_six_rows_and_rows_of_less_rank(self):
        # The bound tells of the rank of the row alone: the other rows of the book are none of its kin.
        for base in (2, 3, 4):
            rows = place_book(base)[1] + coarse_book(5, base, 4)[1]
            row = row_of(base, rows, [1, -3, 0, 0, 0, 0])
            for modulus in (10, 12):
                found = [first_rest(row, modulus, rest) for rest in range(modulus)]
                self.assertEqual(found, [(rest + 3) % modulus for rest in range(modulus)])

    def test_great_ranks_and_the_modulus_one(self):
        for base in (2, 3, 4):
            row = moved(row_of(*coarse_book(3, base, 3), [1, 2, 3]), 8)
            self.assertEqual((first_rest(row, 1, 0), rests_of(row, 1)), (0, [0]))
            self.assertEqual(count_rest(row, 1, 0, 10 ** 30), 10 ** 30 + 1)


class Always(RestCase):

    def test_rows_that_are_always_nought(self):
        for base in (2, 3, 4):
            for row in (nothing(base), Row(Book(*place_book(base)), [0, 0])):
                for modulus in MODULI:
                    self.assertEqual(rests_of(row, modulus), [0])
                    self.assertEqual([first_rest(row, modulus, rest) for rest in range(modulus)],
                                     [0] + [None] * (modulus - 1))
                    self.assertEqual(count_rest(row, modulus, 0, 10 ** 30), 10 ** 30 + 1)
                    if modulus > 1:
                        self.assertEqual(count_rest(row, modulus, 1, 10 ** 30), 0)

    def test_negative_values(self):
        row = Row(Book(*place_book(2)), [-1, 0])
        self.assertEqual([first_rest(row, 5, rest) for rest in range(5)], [0, 4, 3, 2, 1])
        self.assertEqual(rests_of(Row(Book(*place_book(3)), [0, -7]), 5), [3])
        self.assertEqual(first_rest(Row(Book(*place_book(3)), [0, -7]), 5, 3), 0)
        self.assertIsNone(first_rest(Row(Book(*place_book(3)), [0, -7]), 5, 2))

    def test_remainders_that_divide_all_values_never_come(self):
        for base, rows, coefficients in samples():
            row = scaled(row_of(base, rows, coefficients), 6)
            for modulus in (2, 3, 6):
                self.assertEqual(rests_of(row, modulus), [0])
            for rest in range(12):
                if rest % 6:
                    self.assertIsNone(first_rest(row, 12, rest))

    def test_alike_rows(self):
        for writing in samples()[:9]:
            row, other, third = row_of(*writing), row_of(*turned(*writing)), row_of(*with_idle(*writing))
            for modulus in (2, 9):
                for told in (other, third, plain(row)):
                    self.assertEqual(rests_of(told, modulus), rests_of(row, modulus))
                    for rest in range(modulus):
                        self.assertEqual(first_rest(told, modulus, rest), first_rest(row, modulus, rest))
                        self.assertEqual(count_rest(told, modulus, rest, 10 ** 29),
                                         count_rest(row, modulus, rest, 10 ** 29))


class Errors(RefusalCase):

    ROWS = [Row(Book(*STERN), [1, 2]), Row(Book(3, []), [])]

    def test_a_modulus_that_is_less_than_one(self):
        for row in self.ROWS:
            for modulus in (0, -1, -12, -10 ** 30):
                self.refused(InvalidNumber, modulus, rests_of, row, modulus)
                for rest in (0, 1, -1, modulus, 10 ** 30):
                    self.refused(InvalidNumber, modulus, first_rest, row, modulus, rest)
                    for number in (0, 5, -1, -10 ** 30):
                        self.refused(InvalidNumber, modulus, count_rest, row, modulus, rest, number)

    def test_what_is_no_remainder(self):
        for row in self.ROWS:
            for modulus in (1, 2, 12):
                for rest in (-1, -modulus, modulus, modulus + 1, 10 ** 30, -10 ** 30):
                    self.refused(InvalidRest, rest, first_rest, row, modulus, rest)
                    for number in (0, 5, -1, -10 ** 30):
                        self.refused(InvalidRest, rest, count_rest, row, modulus, rest, number)

    def test_a_negative_number(self):
        for row in self.ROWS:
            for modulus in (1, 2, 12):
                for rest in (0, modulus - 1):
                    for number in (-1, -2, -10 ** 30):
                        self.refused(InvalidNumber, number, count_rest, row, modulus, rest, number)

    def test_where_nothing_is_wrong_nothing_is_raised(self):
        for row in self.ROWS:
            for modulus in MODULI:
                for rest in (0, modulus - 1):
                    first_rest(row, modulus, rest)
                    self.assertIsInstance(count_rest(row, modulus, rest, 0), int)
                self.assertIsInstance(rests_of(row, modulus), list)

    def test_an_error_changes_nothing(self):
        row = Row(Book(*ONES), [1, 2])
        self.assertRaises(InvalidRest, first_rest, row, 3, 3)
        self.assertRaises(InvalidNumber, count_rest, row, 3, 2, -1)
        self.assertRaises(InvalidNumber, rests_of, row, 0)
        self.assertEqual(row, Row(Book(*ONES), [1, 2]))
        self.assertEqual(row.first_values(4), [2, 3, 3, 4])


class Arguments(unittest.TestCase):

    def test_arguments_by_name(self):
        row = row_named(Book(*STERN), "s")
        self.assertEqual(first_rest(rest=2, row=row, modulus=3), 3)
        self.assertEqual(count_rest(number=9, rest=0, modulus=2, row=row), 4)
        self.assertEqual(rests_of(modulus=2, row=row), [0, 1])
        with self.assertRaises(InvalidRest) as context:
            count_rest(number=-1, rest=4, modulus=4, row=row)
        self.assertEqual(context.exception.value, 4)

    def test_nothing_that_was_passed_is_modified(self):
        for base, rows in copy.deepcopy(BOOKS):
            told = [4, 6, 9][:len(rows)]
            row = row_of(base, rows, told)
            first_rest(row, 5, 2), count_rest(row, 5, 2, 10 ** 30), rests_of(row, 5)
            self.assertEqual(row, row_of(base, rows, told))

    def test_what_was_returned_may_be_changed_and_passed_on(self):
        row = row_named(Book(*STERN), "s")
        found = rests_of(row, 3)
        found.append(7)
        found[0] = 5
        self.assertEqual(rests_of(row, 3), [0, 1, 2])
        self.assertIsNot(rests_of(row, 3), rests_of(row, 3))
        for rest in rests_of(row, 12):
            self.assertEqual(row.value_at(first_rest(row, 12, rest)) % 12, rest)
            self.assertEqual(count_rest(row, 12, rest, first_rest(row, 12, rest)), 1)

    def test_the_listed_functions_are_defined_in_their_file(self):
        for name in ("first_rest", "count_rest", "rests_of"):
            self.assertEqual(getattr(rests, name).__module__, "figurebooks.rests")


if __name__ == "__main__":
    unittest.main()

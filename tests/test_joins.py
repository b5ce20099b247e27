"""The interface of the joins, and promises [2], [3], [5], [6] and [7] for them."""

import copy
import unittest
from itertools import product as all_of

from figurebooks import joins
from figurebooks.books import Book
from figurebooks.ends import last_place
from figurebooks.errors import InvalidFigure, InvalidNumber, UnlikeBases
from figurebooks.forms import nodes_of, plain, rank_of
from figurebooks.joins import added, moved, part, product, scaled, thinned, woven
from figurebooks.parting import are_alike
from figurebooks.relations import relations
from figurebooks.rows import Row, row_named
from figurebooks.totals import totals_of
from tests.bases import BaseCase, nothing
from tests.examples import ExampleCase
from tests.references import reference_form
from tests.samples import BOOKS, FOURS, MIXED, ONES, STERN
from tests.samples import alone_book, chain_book, coarse_book, falling_book, place_book, ring_book
from tests.samples import sum_of, telling_places
from tests.writings import row_of, turned, with_idle, writings_of

# Word for word as in the interface.
EXAMPLE = """
>>> from figurebooks.books import Book
>>> from figurebooks.joins import added, moved, part, product, scaled, thinned, woven
>>> from figurebooks.parting import are_alike
>>> from figurebooks.rows import row_named
>>> stern = Book(2, [("s", 0, [[(1, "s")], [(1, "s"), (1, "t")]]), ("t", 1, [[(1, "s"), (1, "t")], [(1, "t")]])])
>>> first, second = row_named(stern, "s"), row_named(stern, "t")
>>> [are_alike(moved(first, 1), second), part(first, 1).first_values(4), added(first, second).first_values(4), product(first, second).first_values(5), scaled(first, 0).coefficients, thinned(first, 3, 1).first_values(4), woven([first, second]).first_values(6)]
[True, [1, 2, 3, 3], [1, 2, 3, 3], [0, 1, 2, 2, 3], [], [1, 1, 3, 3], [0, 1, 1, 1, 1, 2]]
"""

NAMES = ("added", "scaled", "product", "part", "woven", "thinned", "moved")
TWENTY = 12345678901234567890
FACTORS = (0, 1, -1, 2, -7, TWENTY, -TWENTY, 10 ** 20 - 1)


def writings(base):
    """Return writings of rows of rank at most 3, of many books of one base."""
    found = [(base, rows, [3, -1, 5][:len(rows)]) for told, rows in BOOKS if told == base]
    found += [(base, rows, [0, 1, 0][:len(rows)]) for told, rows in BOOKS if told == base]
    found.append(place_book(base) + ([2, -5],))
    found.append(coarse_book(base, base, 3) + ([4, 6, -9],))
    found.append(chain_book(base, 3, factor=2, last_factor=-1) + ([1, 0, 3],))
    found.append(with_idle(*alone_book(base, base + 1), [7, 0, 2]))
    found.append((base, [("e", 3, [[(1, "e")]] + [[(-2, "e")]] * (base - 1))], [5]))
    found.append((base, [], []))
    found.append(place_book(base) + ([0, 0],))
    return found


def near_and_far(base):
    """Return small places, places next to powers of the base, and places of thirty digits."""
    places = telling_places(base)
    return places[:14] + places[70:-6:13] + places[-12:]


def pairs_of(base):
    """Return all pairs of writings, and each writing with itself."""
    told = writings(base)
    return [(one, other) for index, one in enumerate(told) for other in told[index:]]


class Example(ExampleCase):

    def test_the_example_of_the_interface(self):
        self.assert_example(EXAMPLE)


class JoinCase(unittest.TestCase):

    def assert_join(self, found, base, value_at):
        """Assert that a row is a plain one with these values."""
        self.assertIs(type(found), Row)
        self.assertEqual(found.book.base, base)
        for place in near_and_far(base):
            self.assertEqual(found.value_at(place), value_at(place))
        self.assertEqual(found, plain(found))

    def assert_always_nought(self, found, base):
        self.assertEqual(found, Row(Book(base, []), []))


class Samples(unittest.TestCase):

    def test_no_row_has_a_greater_rank_than_callers_may_pass(self):
        for base in (2, 3, 4):
            ranks = [rank_of(row_of(*writing)) for writing in writings(base)]
            self.assertEqual(sorted(set(ranks)), [0, 1, 2, 3])


class Sums(JoinCase):

    def test_values_and_form(self):
        for base in (2, 3, 4):
            for one, other in pairs_of(base):
                with self.subTest(one=one, other=other):
                    found = added(row_of(*one), row_of(*other))
                    self.assert_join(found, base, lambda n: sum_of(*one, n) + sum_of(*other, n))
                    self.assertEqual(found, added(row_of(*other), row_of(*one)))

    def test_a_row_less_itself(self):
        for base in (2, 3, 4):
            for writing in writings(base):
                row = row_of(*writing)
                self.assert_always_nought(added(row, scaled(row, -1)), base)
                self.assert_always_nought(added(scaled(row, -1), plain(row)), base)

    def test_other_ways_to_the_same_values(self):
        for base in (2, 3, 4):
            rows = [row_of(*writing) for writing in writings(base)]
            for row, other in zip(rows, rows[1:] + rows[:1]):
                self.assertEqual(added(row, row), scaled(row, 2))
                self.assertEqual(added(added(row, other), row), added(other, scaled(row, 2)))
                self.assertEqual(added(added(row, other), scaled(other, -1)), plain(row))
                self.assertEqual(added(row, nothing(base)), plain(row))

    def test_rows_of_two_books_of_six_rows(self):
        for base in (2, 3, 4):
            one = row_of(*coarse_book(7, base, 6), [1, -2, 3, -4, 5, -6])
            other = row_of(*falling_book(7, base, 6), [1, 2, 3, 4, 5, 6])
            found = added(one, other)
            self.assertEqual(found.first_values(99), [x + y for x, y in zip(one.first_values(99), other.first_values(99))])
            self.assertEqual(found, plain(found))
            self.assertEqual(added(found, scaled(other, -1)), plain(one))

    def test_rows_that_differ_far_out_alone(self):
        for base in (2, 3, 4):
            ring, chain = row_of(*ring_book(base, 6), [1] + [0] * 5), row_of(*chain_book(base, 6), [1] + [0] * 5)
            found = added(ring, scaled(chain, -1))
            self.assertEqual(nodes_of(found), [base ** j - 1 for j in range(12)])
            self.assertEqual(found.value_at(base ** 11 - 1), 1)
            self.assertEqual(added(found, chain), plain(ring))

    def test_as_worked_out_by_walking(self):
        for base, rows in (ONES, STERN, MIXED, place_book(4)):
            more = coarse_book(3, base, 2)[1]
            one, other = [2, 4, -6][:len(rows)], [3, 9]
            nodes, form, multiples = reference_form(base, rows + more, one + other)
            found = added(row_of(base, rows, one), row_of(base, more, other))
            self.assertEqual(found, Row(Book(base, form), multiples))
            self.assertEqual(nodes_of(found), nodes)


class Multiples(JoinCase):

    def test_values_and_form(self):
        for base in (2, 3, 4):
            for writing in writings(base):
                row = row_of(*writing)
                for number in FACTORS:
                    with self.subTest(writing=writing, number=number):
                        self.assert_join(scaled(row, number), base, lambda n: number * sum_of(*writing, n))

    def test_nought_times_a_row(self):
        for base in (2, 3, 4):
            for writing in writings(base):
                self.assert_always_nought(scaled(row_of(*writing), 0), base)

    def test_one_time_a_row_and_times_that_are_multiplied(self):
        for base in (2, 3, 4):
            for writing in writings(base):
                row = row_of(*writing)
                self.assertEqual(scaled(row, 1), plain(row))
                self.assertEqual(scaled(scaled(row, -6), 7), scaled(row, -42))
                self.assertEqual(scaled(row, -1).book, plain(row).book)
                self.assertEqual(scaled(row, -1).coefficients, [-number for number in plain(row).coefficients])

    def test_the_book_grows_with_the_number(self):
        row = scaled(row_named(Book(*STERN), "s"), -TWENTY)
        self.assertEqual([row_named(row.book, name).value_at(node) for name, node in zip("ab", nodes_of(row))],
                         [TWENTY, TWENTY])
        self.assertEqual(row.coefficients, [0, -1])


class Products(JoinCase):

    def test_values_and_form(self):
        for base in (2, 3, 4):
            for one, other in pairs_of(base):
                with self.subTest(one=one, other=other):
                    found = product(row_of(*one), row_of(*other))
                    self.assert_join(found, base, lambda n: sum_of(*one, n) * sum_of(*other, n))
                    self.assertEqual(found, product(row_of(*other), row_of(*one)))

    def test_the_row_that_is_always_nought(self):
        for base in (2, 3, 4):
            for writing in writings(base):
                self.assert_always_nought(product(row_of(*writing), nothing(base)), base)
                self.assert_always_nought(product(Row(Book(*place_book(base)), [0, 0]), row_of(*writing)), base)

    def test_squares(self):
        for base in (2, 3, 4):
            place = row_named(Book(*place_book(base)), "p")
            squares = product(place, place)
            self.assertEqual(squares.first_values(50), [n * n for n in range(50)])
            self.assertEqual(product(squares, place).value_at(10 ** 30), 10 ** 90)
            self.assertEqual(rank_of(squares), 3)
            # Sums of all lesser places, taken twice, and the place itself make the square.
            self.assertEqual(squares, added(scaled(totals_of(place), 2), place))

    def test_sums_and_multiples_of_products(self):
        for base in (2, 3, 4):
            one, other, third = [row_of(*writing) for writing in writings(base)[2:5]]
            both = product(added(one, other), third)
            self.assertEqual(both, added(product(one, third), product(other, third)))
            self.assertEqual(product(scaled(one, -3), third), scaled(product(one, third), -3))

    def test_products_that_are_always_nought_or_end(self):
        for base in (2, 3, 4):
            one = row_of(*alone_book(base, 7), [1] + [0] * (len(alone_book(base, 7)[1]) - 1))
            other = row_of(*alone_book(base, 8), [1] + [0] * (len(alone_book(base, 8)[1]) - 1))
            self.assert_always_nought(product(one, other), base)
            self.assertEqual(product(one, one), plain(one))
            self.assertEqual(last_place(product(row_named(Book(*place_book(base)), "p"), one)), 7)
            self.assertEqual(product(row_named(Book(*place_book(base)), "p"), one), scaled(one, 7))

    def test_as_many_nodes_as_there_can_be(self):
        ranks = []
        for base in (2, 3, 4):
            for seed in range(6):
                one, other = coarse_book(seed, base, 3), coarse_book(seed + 40, base, 3)
                found = product(row_of(*one, [1, 2, 3]), row_of(*other, [3, 2, 1]))
                ranks.append(rank_of(found))
                self.assert_join(found, base, lambda n: sum_of(*one, [1, 2, 3], n) * sum_of(*other, [3, 2, 1], n))
        self.assertEqual(max(ranks), 9)


class Parts(JoinCase):

    def test_values_and_form(self):
        for base in (2, 3, 4):
            for writing in writings(base):
                for figure in range(base):
                    with self.subTest(writing=writing, figure=figure):
                        found = part(row_of(*writing), figure)
                        self.assert_join(found, base, lambda n: sum_of(*writing, base * n + figure))

    def test_parts_of_parts(self):
        for base in (2, 3, 4):
            row = row_of(*writings(base)[3])
            for first, second in all_of(range(base), repeat=2):
                found = part(part(row, first), second)
                for place in near_and_far(base):
                    self.assertEqual(found.value_at(place), row.value_at(base * (base * place + second) + first))


class Woven(JoinCase):

    def test_values_and_form(self):
        for base in (2, 3, 4):
            told = writings(base)
            for first in range(len(told)):
                chosen = [told[(first + 3 * index) % len(told)] for index in range(base)]
                with self.subTest(chosen):
                    found = woven([row_of(*writing) for writing in chosen])
                    self.assert_join(found, base, lambda n: sum_of(*chosen[n % base], n // base))

    def test_a_row_woven_of_its_parts(self):
        for base in (2, 3, 4):
            for writing in writings(base):
                row = row_of(*writing)
                self.assertEqual(woven([part(row, figure) for figure in range(base)]), plain(row))

    def test_the_parts_of_what_is_woven(self):
        for base in (2, 3, 4):
            rows = [row_of(*writing) for writing in writings(base)[2:2 + base]]
            for figure in range(base):
                self.assertEqual(part(woven(rows), figure), plain(rows[figure]))
                self.assertEqual(part(woven(rows[::-1]), figure), plain(rows[::-1][figure]))

    def test_one_row_several_times(self):
        for base in (2, 3, 4):
            row = row_of(*writings(base)[3])
            other = row_of(*writings(base)[2])
            found = woven([row] * base)
            self.assertEqual([found.value_at(n) for n in near_and_far(base)],
                             [row.value_at(n // base) for n in near_and_far(base)])
            mixed = [row] * (base - 1) + [other]
            self.assertEqual(woven(mixed).first_values(40), [mixed[n % base].value_at(n // base) for n in range(40)])

    def test_rows_that_are_always_nought(self):
        for base in (2, 3, 4):
            self.assert_always_nought(woven([nothing(base)] * base), base)
            ones = row_named(Book(*place_book(base)), "u")
            found = woven([nothing(base)] * (base - 1) + [ones])
            self.assertEqual(found.first_values(20), [int(n % base == base - 1) for n in range(20)])


class Thinned(JoinCase):

    def test_values_and_form(self):
        for base in (2, 3, 4):
            for writing in writings(base):
                row = row_of(*writing)
                for factor, first in all_of(range(1, 5), range(10)):
                    with self.subTest(writing=writing, factor=factor, first=first):
                        found = thinned(row, factor, first)
                        self.assertEqual(found.first_values(12), [sum_of(*writing, factor * n + first) for n in range(12)])
                        for place in near_and_far(base)[14::7]:
                            self.assertEqual(found.value_at(place), sum_of(*writing, factor * place + first))
                        self.assertEqual(found, plain(found))

    def test_more_places(self):
        for base in (2, 3, 4):
            writing = writings(base)[3]
            for factor, first in ((1, 0), (2, 5), (3, 9), (4, 0), (4, 9)):
                self.assert_join(thinned(row_of(*writing), factor, first), base,
                                 lambda n: sum_of(*writing, factor * n + first))

    def test_thinned_by_the_base_it_is_a_part(self):
        for base in (2, 3, 4):
            for writing in writings(base):
                for figure in range(base):
                    self.assertEqual(thinned(row_of(*writing), base, figure), part(row_of(*writing), figure))

    def test_thinned_twice(self):
        for base in (2, 3, 4):
            for writing in writings(base):
                row = row_of(*writing)
                for factor, first, second_factor, second in ((2, 1, 2, 4), (1, 3, 4, 5), (3, 0, 1, 3), (2, 5, 1, 2)):
                    found = thinned(thinned(row, factor, first), second_factor, second)
                    self.assertEqual(found, thinned(row, factor * second_factor, factor * second + first))

    def test_once_and_from_nought_it_is_the_row(self):
        for base in (2, 3, 4):
            for writing in writings(base):
                self.assertEqual(thinned(row_of(*writing), 1, 0), plain(row_of(*writing)))

    def test_as_many_nodes_as_there_can_be(self):
        ranks = []
        for base in (2, 3, 4):
            for seed in range(8):
                writing = coarse_book(seed, base, 3) + ([5, 7, -4],)
                for factor in (3, 4):
                    found = thinned(row_of(*writing), factor, 9)
                    ranks.append(rank_of(found))
                    self.assert_join(found, base, lambda n: sum_of(*writing, factor * n + 9))
        self.assertGreater(max(ranks), 14)

    def test_rows_that_end(self):
        for base in (2, 3, 4):
            row = row_of(*alone_book(base, 23), [1] + [0] * (len(alone_book(base, 23)[1]) - 1))
            for factor, first in all_of(range(1, 5), range(10)):
                expected = (23 - first) // factor if (23 - first) % factor == 0 else -1
                self.assertEqual(last_place(thinned(row, factor, first)), expected)


class Moved(JoinCase):

    def test_values_and_form(self):
        for base in (2, 3, 4):
            for writing in writings(base):
                for steps in range(9):
                    with self.subTest(writing=writing, steps=steps):
                        found = moved(row_of(*writing), steps)
                        self.assert_join(found, base, lambda n: sum_of(*writing, n + steps))

    def test_moved_twice(self):
        for base in (2, 3, 4):
            for writing in writings(base):
                row = row_of(*writing)
                for one, other in ((1, 1), (2, 3), (0, 5), (7, 1), (1, 7), (4, 4)):
                    self.assertEqual(moved(moved(row, one), other), moved(row, one + other))

    def test_it_is_thinned_by_one(self):
        for base in (2, 3, 4):
            for writing in writings(base):
                for steps in (0, 1, 8):
                    self.assertEqual(moved(row_of(*writing), steps), thinned(row_of(*writing), 1, steps))

    def test_not_moved_it_is_the_row(self):
        for base in (2, 3, 4):
            for writing in writings(base):
                self.assertEqual(moved(row_of(*writing), 0), plain(row_of(*writing)))

    def test_totals_and_steps(self):
        # The sums below a place, moved on by one, less the sums below it are the row.
        for base in (2, 3, 4):
            for writing in writings(base)[:3]:
                row = row_of(*writing)
                self.assertEqual(added(moved(totals_of(row), 1), scaled(totals_of(row), -1)), plain(row))


class Writings(JoinCase):

    def test_alike_rows_give_equal_rows(self):
        for base, rows, coefficients in (STERN + ([2, -3],), MIXED + ([1, 1, -2],), FOURS + ([1, 0, 2],)):
            row = row_of(base, rows, coefficients)
            other = row_of(*turned(*place_book(base), [1, 2]))
            expected = self.all_joins(row, other)
            for writing in writings_of(base, rows, coefficients):
                with self.subTest(writing):
                    self.assertEqual(self.all_joins(row_of(*writing), other), expected)

    def all_joins(self, row, other):
        base = row.book.base
        return [added(row, other), scaled(row, -4), product(row, other), part(row, 1), thinned(row, 3, 2),
                woven([other, row, row, other][:base]), moved(row, 5)]

    def test_rows_of_a_book_with_no_rows(self):
        for base in (2, 3, 4):
            none = nothing(base)
            for found in self.all_joins(none, none):
                self.assert_always_nought(found, base)


class Errors(BaseCase):

    def test_two_rows_of_unlike_bases(self):
        for function in (added, product):
            self.assert_base_check_of_two(function)

    def test_a_figure_that_the_base_does_not_have(self):
        for base in (2, 3, 4):
            for row in (nothing(base), row_named(Book(*place_book(base)), "p")):
                for figure in (-1, -2, -base, base, base + 1, 9, 10 ** 30, -10 ** 30):
                    self.refused(InvalidFigure, figure, part, row, figure)
                for figure in range(base):
                    self.assertIsInstance(part(row, figure), Row)

    def test_too_few_or_too_many_rows_to_weave(self):
        for base in (2, 3, 4):
            row = row_named(Book(*place_book(base)), "p")
            for number in range(9):
                if number != base:
                    self.refused(InvalidNumber, number, woven, [row] * number)
                    self.refused(InvalidNumber, number, woven, [nothing(base)] * number)
            self.assertIsInstance(woven([row] * base), Row)
        self.refused(InvalidNumber, 0, woven, [])

    def test_rows_of_unlike_bases_to_weave(self):
        for number in (1, 2, 3, 4, 5):
            for bases in all_of((2, 3, 4), repeat=number):
                rows = [Row(Book(*place_book(base)), [1, index]) for index, base in enumerate(bases)]
                unlike = [base for base in bases if base != bases[0]]
                with self.subTest(bases):
                    if number != bases[0]:
                        self.refused(InvalidNumber, number, woven, rows)
                    elif unlike:
                        self.assert_unlike((bases[0], unlike[0]), woven, rows)
                    else:
                        self.assertIsInstance(woven(rows), Row)

    def test_factors_and_first_places(self):
        for row in (nothing(3), row_named(Book(*STERN), "s")):
            for factor in (0, -1, -4, -10 ** 30):
                for first in (0, 1, 9, -1, -10 ** 30, 10 ** 30):
                    self.refused(InvalidNumber, factor, thinned, row, factor, first)
            for factor in (1, 2, 4):
                for first in (-1, -2, -10 ** 30):
                    self.refused(InvalidNumber, first, thinned, row, factor, first)
                self.assertIsInstance(thinned(row, factor, 0), Row)

    def test_negative_steps(self):
        for row in (nothing(2), row_named(Book(*STERN), "s")):
            for steps in (-1, -8, -10 ** 30):
                self.refused(InvalidNumber, steps, moved, row, steps)
            self.assertIsInstance(moved(row, 0), Row)

    def test_an_error_changes_nothing(self):
        rows = [Row(Book(*ONES), [1, 2]), Row(Book(3, []), [])]
        told = list(rows)
        self.assertRaises(UnlikeBases, woven, told)
        self.assertRaises(UnlikeBases, product, *told)
        self.assertEqual(told, rows)
        self.assertEqual(rows[0].first_values(4), [2, 3, 3, 4])


class Arguments(unittest.TestCase):

    def test_arguments_by_name(self):
        book = Book(*STERN)
        first, second = row_named(book, "s"), row_named(book, "t")
        self.assertEqual(added(other_row=second, row=first), added(first, second))
        self.assertEqual(product(other_row=second, row=first), product(first, second))
        self.assertEqual(scaled(number=3, row=first), scaled(first, 3))
        self.assertEqual(part(figure=1, row=first), part(first, 1))
        self.assertEqual(woven(rows=[first, second]), woven([first, second]))
        self.assertEqual(thinned(first=1, factor=3, row=first), thinned(first, 3, 1))
        self.assertEqual(moved(steps=2, row=first), moved(first, 2))
        with self.assertRaises(UnlikeBases) as context:
            added(other_row=nothing(3), row=first)
        self.assertEqual(context.exception.value, (2, 3))
        with self.assertRaises(InvalidNumber) as context:
            thinned(first=-2, row=first, factor=1)
        self.assertEqual(context.exception.value, -2)

    def test_nothing_that_was_passed_is_modified(self):
        for base, rows in copy.deepcopy(BOOKS):
            told = [4, 6, 9][:len(rows)]
            row, other = row_of(base, rows, told), Row(Book(*place_book(base)), [1, 2])
            many = [row, other, row, other][:base]
            same = list(many)
            added(row, other), product(row, other), scaled(row, 2), part(row, 1), woven(many)
            thinned(row, 3, 4), moved(row, 3)
            self.assertEqual(row, row_of(base, rows, told))
            self.assertEqual(other, Row(Book(*place_book(base)), [1, 2]))
            self.assertEqual(len(many), base)
            self.assertTrue(all(one is two for one, two in zip(many, same)))

    def test_what_was_returned_may_be_changed_and_passed_on(self):
        first, second = row_named(Book(*STERN), "s"), row_named(Book(*STERN), "t")
        calls = [(added, first, second), (product, first, second), (scaled, first, 3), (part, first, 1),
                 (woven, [first, second]), (thinned, first, 3, 1), (moved, first, 2)]
        for function, *arguments in calls:
            found = function(*arguments)
            found.coefficients.clear()
            found.book.names.clear()
            found.book.formulas_of("a").clear()
            self.assertEqual(found, function(*arguments))
            self.assertEqual(relations([found, scaled(found, 2)]), [[2, -1]])
            self.assertTrue(are_alike(totals_of(plain(found)), totals_of(found)))
            self.assertEqual(row_named(found.book, "a").first_values(1), [found.book.start_of("a")])

    def test_the_listed_functions_are_defined_in_their_file(self):
        for name in NAMES:
            self.assertEqual(getattr(joins, name).__module__, "figurebooks.joins")


if __name__ == "__main__":
    unittest.main()

"""The lists, systems and places that the promised functions are built on."""

import random
import unittest

from figurebooks.books import Book
from figurebooks.comparing import compared
from figurebooks.lattices import divided, widened
from figurebooks.rows import row_named
from figurebooks.spans import eliminated, independent, spanning_places, taken_in
from figurebooks.systems import System, shifted, united
from figurebooks.vectors import front_of, lessened, unit_of, weighted_sum
from tests.references import hermite, rank, walked
from tests.samples import BOOKS, ONES, STERN, chain_book, coarse_book, place_book, sound_book


class Lists(unittest.TestCase):

    def test_sums_and_fronts(self):
        self.assertEqual(weighted_sum([2, -1, 0], [5, 7, 9]), 3)
        self.assertEqual(weighted_sum([], []), 0)
        self.assertEqual(lessened([5, 7], 3, [1, -2]), [2, 13])
        self.assertEqual([unit_of(index, 3) for index in range(3)], [[1, 0, 0], [0, 1, 0], [0, 0, 1]])
        self.assertEqual([front_of(values) for values in ([1, 2], [0, -2], [0, 0], [])], [0, 1, 2, 0])


class Lattices(unittest.TestCase):

    def test_plain_lists_of_a_lattice(self):
        choice = random.Random(3)
        for seed in range(300):
            width, bound = 1 + seed % 5, 1 + seed % 20
            lists = [[choice.randint(-bound, bound) for _ in range(width)] for _ in range(seed % 7)]
            found = []
            for values in lists:
                found = widened(found, values)
            self.assertEqual(found, hermite(lists))

    def test_multiples_and_rests(self):
        lists = [[2, 1, 5], [0, 3, 1]]
        self.assertEqual(divided([4, 8, 12], lists), ([2, 2], [0, 0, 0]))
        self.assertEqual(divided([-3, 0, 1], lists), ([-2, 0], [1, 2, 11]))
        self.assertEqual(divided([1, 2], []), ([], [1, 2]))

    def test_nothing_that_was_passed_is_modified(self):
        lists, values = [[2, 1], [0, 3]], [3, 4]
        divided(values, lists)
        widened(lists, values)
        self.assertEqual((lists, values), ([[2, 1], [0, 3]], [3, 4]))


class Systems(unittest.TestCase):

    def test_a_system_never_changes(self):
        starts, steps = [1, 2], [[[(1, 0)], [(1, 1)]], [[(1, 1)], []]]
        system = System(starts, steps)
        starts.append(3)
        steps[1][1].append((9, 0))
        self.assertEqual((system.base, system.starts), (2, (1, 2)))
        self.assertEqual(system.steps, ((((1, 0),), ((1, 1),)), (((1, 1),), ())))
        system.values_at(0).append(4)
        self.assertEqual(system.values_at(0), [1, 2])

    def test_figures_more(self):
        for base, rows in BOOKS:
            system = Book(base, rows).system
            for place in (0, 1, 5, 80):
                values = system.values_at(place)
                self.assertEqual(system.read_on(values, []), values)
                self.assertEqual(system.read_on(values, [1, 0, 1]), system.values_at(base ** 3 * place + base ** 2 + 1))

    def test_indices_that_are_moved_on(self):
        self.assertEqual(shifted([[(5, 0), (-1, 2)], []], 3), [[(5, 3), (-1, 5)], []])

    def test_the_part_of_a_sum_of_rows(self):
        for base, rows in BOOKS:
            system = Book(base, rows).system
            weights = [3, -2, 7][:len(rows)]
            for figure in range(base):
                part = system.parted(weights, figure)
                for place in range(20):
                    values = system.values_at(base * place + figure)
                    self.assertEqual(weighted_sum(weights, values), weighted_sum(part, system.values_at(place)))

    def test_rows_of_several_systems_in_one(self):
        told = [ONES, STERN, chain_book(2, 3), (2, [])]
        system = united([Book(*sample).system for sample in told])
        for place in range(40):
            values = [values[place] for sample in told for values in walked(*sample, 40).values()]
            self.assertEqual(system.values_at(place), values)


class Spans(unittest.TestCase):

    def test_the_places_at_which_the_rank_grows(self):
        samples = BOOKS + [place_book(4), chain_book(3, 4), (3, [])]
        samples += [coarse_book(seed, 2 + seed % 3, 4) for seed in range(12)]
        samples += [sound_book(seed, 2 + seed % 2) for seed in range(6)]
        for base, rows in samples:
            lists = list(zip(*walked(base, rows, base ** 3).values()))
            ranks = [rank(lists[:number]) for number in range(len(lists) + 1)]
            expected = [place for place in range(len(lists)) if ranks[place] < ranks[place + 1]]
            with self.subTest(base=base, rows=rows):
                self.assertEqual(spanning_places(Book(base, rows).system), expected)

    def test_lists_that_are_no_sums_of_others(self):
        choice = random.Random(5)
        for seed in range(100):
            width = 1 + seed % 5
            lists = [[choice.randint(-2, 2) for _ in range(width)] for _ in range(seed % 8)]
            found = independent(lists)
            self.assertEqual((len(found), rank(found + lists)), (rank(lists), rank(lists)))
            for number, values in enumerate(lists):
                told = independent(lists[:number])
                new = rank(lists[:number]) < rank(lists[:number + 1])
                self.assertEqual(any(eliminated(values, told)), new)
                self.assertEqual((taken_in(values, told), len(told)), (new, rank(lists[:number + 1])))

    def test_rows_that_are_compared(self):
        ones, stern = Book(*ONES), Book(*STERN)
        places, lists = compared([row_named(ones, "o"), row_named(stern, "s"), row_named(ones, "e")])
        self.assertEqual(places, [0, 1, 2, 5])
        self.assertEqual(lists, [[0, 1, 1, 2], [0, 1, 1, 3], [1, 1, 1, 1]])

    def test_rows_of_equal_books_need_no_more_places(self):
        rows = [row_named(Book(*ONES), name) for name in "oe"]
        self.assertEqual(compared(rows), ([0, 1], [[0, 1], [1, 1]]))


if __name__ == "__main__":
    unittest.main()

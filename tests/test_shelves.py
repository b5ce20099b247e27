"""The interface of `Shelf` and `SmallShelf`, and promises [2], [3] and [7] for them."""

import random
import unittest

from figurebooks.books import Book
from figurebooks.errors import InvalidBase, InvalidName, InvalidNumber, NothingToUndo, TooWide, UnlikeBases
from figurebooks.forms import plain, rank_of
from figurebooks.joins import added, product
from figurebooks.rows import Row, row_named
from figurebooks.shelves import Shelf, SmallShelf
from figurebooks.totals import totals_of
from tests.bases import nothing
from tests.equality import EqualityCase, Like
from tests.examples import ExampleCase
from tests.refusals import RefusalCase
from tests.samples import BOOKS, ONES, STERN, chain_book, place_book, ring_book
from tests.writings import row_of, turned, with_idle, writings_of

# Word for word as in the interface.
EXAMPLE = """
>>> from figurebooks.books import Book
>>> from figurebooks.rows import Row, row_named
>>> from figurebooks.shelves import Shelf, SmallShelf
>>> ones = Book(2, [("o", 0, [[(1, "o")], [(1, "o"), (1, "e")]]), ("e", 1, [[(1, "e")], [(1, "e")]])])
>>> shelf = Shelf(2)
>>> [shelf.put("b", row_named(ones, "o")), shelf.put("a", Row(ones, [0, 2])), shelf.titles, shelf.alike_on(Row(ones, [1, 0])), shelf.drop("b"), len(shelf), shelf.undo(), shelf.row_on("b") == row_named(ones, "o"), len(shelf.story()), Shelf(2) == SmallShelf(2, 5)]
[None, None, ['a', 'b'], ['b'], None, 1, None, True, 2, False]
"""

METHODS = ("__init__", "titles", "put", "drop", "undo", "row_on", "alike_on", "story", "__len__", "__eq__")
NO_TITLES = ("", "A", "Z", "0", "9", " ", "_", "-", "`", "{", "~", "ab", "aa", "a ", " a")


def pool(base):
    """Return rows of one base, some of them alike, of ranks from 0 to 2."""
    place = Book(*place_book(base))
    found = [nothing(base), Row(place, [0, 0]), Row(place, [1, 0]), Row(place, [0, 3]), Row(place, [-2, 5])]
    found += [row_of(*turned(*place_book(base), [1, 0])), row_of(*with_idle(*place_book(base), [0, 3]))]
    return found + [plain(Row(place, [-2, 5])), plain(Row(place, [1, 0]))]


class Kept:
    """A shelf that is kept by the plainest means: all calls, done anew for each question."""

    def __init__(self):
        self.calls = []

    def rows(self):
        found = {}
        for call in self.calls:
            if call[0] == "put":
                found[call[1]] = call[2]
            else:
                found.pop(call[1])
        return found


class ShelfCase(EqualityCase, RefusalCase):

    def assert_shelf(self, shelf, calls, rows):
        """Assert all that a shelf tells."""
        self.assertEqual(shelf.titles, sorted(rows))
        self.assertEqual(len(shelf), len(rows))
        self.assertEqual(shelf.story(), calls)
        for title, row in rows.items():
            self.assertIs(shelf.row_on(title), row)
        for title in "abcdefghijklmnopqrstuvwxyz":
            if title not in rows:
                self.refused(InvalidName, title, shelf.row_on, title)

    def shelves(self, base):
        """Return new shelves of both kinds."""
        return [Shelf(base), SmallShelf(base, 2), SmallShelf(base, 10 ** 30)]


class Example(ExampleCase):

    def test_the_example_of_the_interface(self):
        self.assert_example(EXAMPLE)


class Construction(ShelfCase):

    def test_a_new_shelf_has_nothing(self):
        for base in (2, 3, 4):
            for shelf in self.shelves(base):
                self.assert_shelf(shelf, [], {})
                self.assertEqual(shelf.alike_on(nothing(base)), [])

    def test_other_bases(self):
        for base in (-10 ** 30, -2, -1, 0, 1, 5, 6, 10, 10 ** 30):
            self.refused(InvalidBase, base, Shelf, base)
            for most in (0, 5, -1, -10 ** 30):
                self.refused(InvalidBase, base, SmallShelf, base, most)

    def test_negative_limits(self):
        for base in (2, 3, 4):
            for most in (-1, -2, -10 ** 30):
                self.refused(InvalidNumber, most, SmallShelf, base, most)
            for most in (0, 1, 10 ** 30):
                self.assertEqual(len(SmallShelf(base, most)), 0)

    def test_a_small_shelf_is_a_shelf(self):
        self.assertEqual(SmallShelf.__bases__, (Shelf,))
        self.assertEqual(Shelf.__bases__, (object,))
        self.assertIsInstance(SmallShelf(2, 3), Shelf)
        self.assertNotIsInstance(Shelf(2), SmallShelf)

    def test_arguments_by_name(self):
        shelf, small = Shelf(base=2), SmallShelf(most=1, base=2)
        row = row_named(Book(*ONES), "o")
        self.assertIsNone(shelf.put(row=row, title="q"))
        self.assertEqual(shelf.row_on(title="q"), row)
        self.assertEqual(shelf.alike_on(row=row), ["q"])
        self.assertIsNone(shelf.drop(title="q"))
        self.refused(TooWide, 2, lambda: small.put(row=row, title="q"))
        self.assertIsNone(small.put(title="q", row=row_named(Book(*ONES), "e")))
        self.refused(InvalidNumber, -3, lambda: SmallShelf(most=-3, base=2))
        self.refused(InvalidBase, 7, lambda: SmallShelf(most=-3, base=7))

    def test_the_listed_names_are_defined_in_their_file(self):
        for told in (Shelf, SmallShelf):
            self.assertEqual(told.__module__, "figurebooks.shelves")
        for name in METHODS:
            self.assertIn(name, vars(Shelf))
        for name in ("__init__", "put"):
            self.assertIn(name, vars(SmallShelf))
        self.assertIsInstance(vars(Shelf)["titles"], property)
        with self.assertRaises(AttributeError):
            Shelf(2).titles = []


class Calls(ShelfCase):

    def test_puts_and_drops(self):
        for base in (2, 3, 4):
            rows = pool(base)
            for shelf in self.shelves(base):
                self.assertIsNone(shelf.put("m", rows[2]))
                self.assert_shelf(shelf, [("put", "m", rows[2])], {"m": rows[2]})
                self.assertIsNone(shelf.put("c", rows[3]))
                calls = [("put", "m", rows[2]), ("put", "c", rows[3])]
                self.assert_shelf(shelf, calls, {"c": rows[3], "m": rows[2]})
                self.assertIsNone(shelf.drop("m"))
                self.assert_shelf(shelf, calls + [("drop", "m")], {"c": rows[3]})
                self.assertIsNone(shelf.drop("c"))
                self.assert_shelf(shelf, calls + [("drop", "m"), ("drop", "c")], {})

    def test_a_row_under_a_title_that_is_there(self):
        for base in (2, 3, 4):
            rows = pool(base)
            for shelf in self.shelves(base):
                shelf.put("k", rows[2])
                shelf.put("k", rows[4])
                calls = [("put", "k", rows[2]), ("put", "k", rows[4])]
                self.assert_shelf(shelf, calls, {"k": rows[4]})
                self.assertIsNone(shelf.undo())
                self.assert_shelf(shelf, calls[:1], {"k": rows[2]})
                self.assertIsNone(shelf.undo())
                self.assert_shelf(shelf, [], {})

    def test_a_drop_that_is_taken_back(self):
        for base in (2, 3, 4):
            rows = pool(base)
            for shelf in self.shelves(base):
                shelf.put("k", rows[2])
                shelf.put("k", rows[4])
                shelf.drop("k")
                shelf.undo()
                self.assert_shelf(shelf, [("put", "k", rows[2]), ("put", "k", rows[4])], {"k": rows[4]})
                shelf.put("k", rows[0])
                shelf.drop("k")
                shelf.put("k", rows[1])
                self.assertEqual(len(shelf.story()), 5)
                shelf.undo()
                self.assertEqual(shelf.titles, [])
                shelf.undo()
                self.assertIs(shelf.row_on("k"), rows[0])
                shelf.undo()
                self.assertIs(shelf.row_on("k"), rows[4])
                shelf.undo()
                self.assertIs(shelf.row_on("k"), rows[2])

    def test_the_row_that_is_put_again_is_kept_twice(self):
        row = row_named(Book(*ONES), "o")
        shelf = Shelf(2)
        for _ in range(3):
            shelf.put("a", row)
        self.assert_shelf(shelf, [("put", "a", row)] * 3, {"a": row})
        shelf.undo()
        self.assert_shelf(shelf, [("put", "a", row)] * 2, {"a": row})

    def test_all_titles(self):
        letters = "abcdefghijklmnopqrstuvwxyz"
        for shelf in self.shelves(3):
            row = pool(3)[2]
            for title in letters[::-1]:
                shelf.put(title, row)
            self.assertEqual(shelf.titles, list(letters))
            self.assertEqual(len(shelf), 26)
            self.assertEqual(shelf.alike_on(plain(row)), list(letters))
            for _ in range(26):
                shelf.undo()
            self.assert_shelf(shelf, [], {})

    def test_many_sequences_of_calls(self):
        undone = 0
        for seed in range(60):
            choice = random.Random(seed)
            base = 2 + seed % 3
            shelf, kept, rows = self.shelves(base)[seed // 3 % 3], Kept(), pool(base)
            for _ in range(90):
                self.one_call(choice, shelf, kept, rows)
                undone += len(kept.calls) < len(shelf.story())
                self.assertEqual(shelf.story(), kept.calls)
                self.assertEqual(shelf.titles, sorted(kept.rows()))
                self.assertEqual([shelf.row_on(title) for title in shelf.titles],
                                 [kept.rows()[title] for title in shelf.titles])
            self.assert_shelf(shelf, kept.calls, kept.rows())
            row = choice.choice(rows)
            alike = [title for title, other in kept.rows().items() if plain(other) == plain(row)]
            self.assertEqual(shelf.alike_on(row), sorted(alike))

    def one_call(self, choice, shelf, kept, rows):
        """Call a shelf, rightly or wrongly, and the one that is kept by the test likewise."""
        title = choice.choice("abcd")
        kind = choice.choice(["put", "put", "put", "drop", "undo", "undo", "bad put", "bad title"])
        if kind == "put":
            row = choice.choice(rows)
            self.assertIsNone(shelf.put(title, row))
            kept.calls.append(("put", title, row))
        elif kind == "drop" and title in kept.rows():
            self.assertIsNone(shelf.drop(title))
            kept.calls.append(("drop", title))
        elif kind == "drop":
            self.refused(InvalidName, title, shelf.drop, title)
        elif kind == "undo" and kept.calls:
            self.assertIsNone(shelf.undo())
            kept.calls.pop()
        elif kind == "undo":
            self.refused(NothingToUndo, 0, shelf.undo)
        elif kind == "bad put":
            other = 2 + (rows[0].book.base - 1) % 3
            self.refused(UnlikeBases, (rows[0].book.base, other), shelf.put, title, nothing(other))
        else:
            self.refused(InvalidName, title * 2, shelf.put, title * 2, rows[0])

    def test_the_row_is_as_it_was_written(self):
        for base, rows in BOOKS:
            shelf = Shelf(base)
            told = [row_of(*writing) for writing in writings_of(base, rows, [1, 2, 3][:len(rows)])]
            for row in told[:20]:
                shelf.put("x", row)
                self.assertEqual(shelf.row_on("x"), row)
                self.assertEqual(shelf.story()[-1], ("put", "x", row))
                self.assertEqual(shelf.row_on("x").book.names, row.book.names)

    def test_the_lists_that_are_returned_are_new(self):
        row = row_named(Book(*ONES), "o")
        for shelf in self.shelves(2):
            shelf.put("b", row)
            shelf.put("a", row)
            shelf.titles.append("z")
            shelf.titles.clear()
            shelf.story().pop()
            shelf.alike_on(row).reverse()
            self.assertIsNot(shelf.titles, shelf.titles)
            self.assertIsNot(shelf.story(), shelf.story())
            self.assertIsNot(shelf.alike_on(row), shelf.alike_on(row))
            self.assert_shelf(shelf, [("put", "b", row), ("put", "a", row)], {"a": row, "b": row})
            self.assertEqual(shelf.alike_on(row), ["a", "b"])
            self.assertTrue(all(type(call) is tuple for call in shelf.story()))

    def test_shelves_do_not_share_anything(self):
        rows = pool(2)
        for one, other in zip(self.shelves(2), self.shelves(2)):
            one.put("a", rows[2])
            self.assert_shelf(other, [], {})
            other.put("b", rows[3])
            other.put("a", rows[4])
            self.assert_shelf(one, [("put", "a", rows[2])], {"a": rows[2]})
            one.undo()
            self.assert_shelf(other, [("put", "b", rows[3]), ("put", "a", rows[4])], {"a": rows[4], "b": rows[3]})

    def test_rows_are_left_as_they_were(self):
        row = Row(Book(*STERN), [3, 4])
        shelf = SmallShelf(2, 2)
        shelf.put("a", row)
        shelf.row_on("a").coefficients.clear()
        shelf.alike_on(row)
        self.assertEqual(row, Row(Book(*STERN), [3, 4]))

    def test_what_was_returned_may_be_passed_on(self):
        shelf = Shelf(2)
        shelf.put("a", row_named(Book(*STERN), "s"))
        shelf.put(shelf.titles[0], totals_of(shelf.row_on("a")))
        shelf.put("b", shelf.story()[0][2])
        self.assertEqual(totals_of(shelf.row_on("b")), shelf.row_on("a"))


class Alike(ShelfCase):

    def test_rows_that_are_alike(self):
        for base, rows in BOOKS:
            shelf = Shelf(base)
            coefficients = [4, 6, -3][:len(rows)]
            told = [row_of(*writing) for writing in writings_of(base, rows, coefficients)[:12]]
            for title, row in zip("zwtsrqponmlk", told):
                shelf.put(title, row)
            shelf.put("b", nothing(base))
            shelf.put("a", Row(Book(base, rows), [4, 6, -2][:len(rows)]) if len(rows) > 2 else nothing(base))
            for row in told:
                self.assertEqual(shelf.alike_on(row), sorted("zwtsrqponmlk"[:len(told)]))
            nought = Row(Book(base, rows), [0] * len(rows))
            self.assertEqual(shelf.alike_on(nought), ["b"] if len(rows) > 2 else ["a", "b"])

    def test_behind_drops_and_undo(self):
        shelf = Shelf(2)
        first, second = row_named(Book(*STERN), "s"), row_named(Book(*STERN), "t")
        shelf.put("d", first)
        shelf.put("a", first)
        shelf.put("d", second)
        self.assertEqual((shelf.alike_on(first), shelf.alike_on(second)), (["a"], ["d"]))
        shelf.undo()
        self.assertEqual((shelf.alike_on(first), shelf.alike_on(second)), (["a", "d"], []))
        shelf.drop("a")
        self.assertEqual(shelf.alike_on(first), ["d"])

    def test_rows_that_part_far_out(self):
        ring, chain = row_of(*ring_book(2, 6), [1] + [0] * 5), row_of(*chain_book(2, 6), [1] + [0] * 5)
        shelf = Shelf(2)
        shelf.put("c", chain)
        shelf.put("r", ring)
        self.assertEqual((shelf.alike_on(plain(ring)), shelf.alike_on(plain(chain))), (["r"], ["c"]))


class Errors(ShelfCase):

    def test_titles_that_are_not_one_letter(self):
        for base in (2, 3, 4):
            for shelf in self.shelves(base) + [SmallShelf(base, 0)]:
                for title in NO_TITLES:
                    for other in (2, 3, 4):
                        self.refused(InvalidName, title, shelf.put, title, row_named(Book(*place_book(other)), "p"))
                    self.refused(InvalidName, title, shelf.drop, title)
                    self.refused(InvalidName, title, shelf.row_on, title)
                self.assert_shelf(shelf, [], {})

    def test_rows_of_another_base(self):
        for base in (2, 3, 4):
            for shelf in self.shelves(base) + [SmallShelf(base, 0)]:
                for other in (2, 3, 4):
                    if other != base:
                        for row in (nothing(other), row_named(Book(*place_book(other)), "p")):
                            self.refused(UnlikeBases, (base, other), shelf.put, "a", row)
                            self.refused(UnlikeBases, (base, other), shelf.alike_on, row)
                self.assert_shelf(shelf, [], {})

    def test_titles_that_are_not_there(self):
        for shelf in self.shelves(2):
            shelf.put("a", nothing(2))
            shelf.put("b", nothing(2))
            shelf.drop("a")
            for title in ("a", "c", "z", "ab", "ba", ""):
                self.refused(InvalidName, title, shelf.drop, title)
                self.refused(InvalidName, title, shelf.row_on, title)
            self.assertEqual(len(shelf.story()), 3)
            self.assertEqual(shelf.titles, ["b"])

    def test_nothing_to_undo(self):
        for shelf in self.shelves(2):
            self.refused(NothingToUndo, 0, shelf.undo)
            shelf.put("a", nothing(2))
            shelf.drop("a")
            shelf.put("a", nothing(2))
            for _ in range(3):
                self.assertIsNone(shelf.undo())
            for _ in range(3):
                self.refused(NothingToUndo, 0, shelf.undo)
            self.assert_shelf(shelf, [], {})
            shelf.put("b", nothing(2))
            self.assertIsNone(shelf.undo())
            self.refused(NothingToUndo, 0, shelf.undo)

    def test_a_call_that_raised_an_error_is_not_taken_back(self):
        for base in (2, 3, 4):
            rows, other = pool(base), nothing(2 + (base - 1) % 3)
            for shelf in self.shelves(base):
                shelf.put("a", rows[2])
                shelf.put("b", rows[3])
                for wrong in (lambda: shelf.put("A", rows[0]), lambda: shelf.put("a", other),
                              lambda: shelf.drop("c"), lambda: shelf.row_on("c"), lambda: shelf.alike_on(other)):
                    with self.assertRaises(ValueError):
                        wrong()
                self.assert_shelf(shelf, [("put", "a", rows[2]), ("put", "b", rows[3])], {"a": rows[2], "b": rows[3]})
                shelf.undo()
                self.assert_shelf(shelf, [("put", "a", rows[2])], {"a": rows[2]})

    def test_only_puts_and_drops_are_taken_back(self):
        shelf = Shelf(2)
        shelf.put("a", nothing(2))
        shelf.row_on("a"), shelf.alike_on(nothing(2)), shelf.story(), shelf.titles, len(shelf)
        self.assertEqual(len(shelf.story()), 1)
        shelf.undo()
        self.assertEqual(shelf.titles, [])


class Limits(ShelfCase):

    def test_rows_of_too_great_a_rank(self):
        for base in (2, 3, 4):
            rows = [row_of(*chain_book(base, 6), [int(other == 6 - rank) for other in range(6)]) for rank in range(1, 7)]
            for rank, row in enumerate([nothing(base)] + rows):
                self.assertEqual(rank_of(row), rank)
                for most in range(8):
                    shelf = SmallShelf(base, most)
                    if rank <= most:
                        self.assertIsNone(shelf.put("a", row))
                        self.assert_shelf(shelf, [("put", "a", row)], {"a": row})
                    else:
                        self.refused(TooWide, rank, shelf.put, "a", row)
                        self.assert_shelf(shelf, [], {})

    def test_the_rank_counts_and_not_the_rows_of_the_book(self):
        shelf = SmallShelf(2, 1)
        row = row_of(*with_idle(*ONES, [0, 1]))
        self.assertEqual(len(row.book.names), 4)
        self.assertIsNone(shelf.put("a", row))
        self.refused(TooWide, 2, shelf.put, "a", row_named(Book(*ONES), "o"))
        self.assertEqual(shelf.row_on("a"), row)

    def test_a_shelf_for_rows_that_are_always_nought(self):
        for base in (2, 3, 4):
            shelf = SmallShelf(base, 0)
            self.assertIsNone(shelf.put("a", Row(Book(*place_book(base)), [0, 0])))
            self.refused(TooWide, 1, shelf.put, "a", row_named(Book(*place_book(base)), "u"))
            self.assertEqual(shelf.titles, ["a"])

    def test_titles_and_bases_are_looked_at_ahead_of_the_rank(self):
        for base, other in ((2, 3), (3, 4), (4, 2)):
            shelf = SmallShelf(base, 1)
            self.refused(InvalidName, "Q", shelf.put, "Q", row_named(Book(*place_book(base)), "p"))
            self.refused(UnlikeBases, (base, other), shelf.put, "q", row_named(Book(*place_book(other)), "p"))
            self.refused(TooWide, 2, shelf.put, "q", row_named(Book(*place_book(base)), "p"))

    def test_a_shelf_without_limit(self):
        shelf = Shelf(3)
        ring, chain = row_of(*ring_book(3, 6), [1] + [0] * 5), row_of(*chain_book(3, 6), [1] + [0] * 5)
        shelf.put("a", added(ring, chain))
        self.assertEqual(rank_of(shelf.row_on("a")), 12)
        self.refused(TooWide, 12, SmallShelf(3, 11).put, "a", added(ring, chain))
        self.assertIsNone(SmallShelf(3, 12).put("a", added(ring, chain)))

    def test_a_call_that_was_too_wide_is_not_taken_back(self):
        shelf = SmallShelf(2, 1)
        shelf.put("a", row_named(Book(*ONES), "e"))
        self.refused(TooWide, 2, shelf.put, "b", row_named(Book(*ONES), "o"))
        self.assertEqual(len(shelf.story()), 1)
        shelf.undo()
        self.assertEqual(shelf.titles, [])


class Equality(ShelfCase):

    def test_new_shelves(self):
        for base in (2, 3, 4):
            self.assert_equal(Shelf(base), Shelf(base))
            for other in (2, 3, 4):
                if other != base:
                    self.assert_unequal(Shelf(base), Shelf(other))
                    self.assert_unequal(SmallShelf(base, 3), SmallShelf(other, 3))

    def test_limits(self):
        for base in (2, 3, 4):
            for most in (0, 1, 5, 10 ** 30):
                self.assert_equal(SmallShelf(base, most), SmallShelf(base, most))
                self.assert_unequal(SmallShelf(base, most), SmallShelf(base, most + 1))
                self.assert_unequal(Shelf(base), SmallShelf(base, most))

    def filled(self, shelf, *calls):
        for call in calls:
            if call[0] == "undo":
                shelf.undo()
            else:
                (shelf.put if call[0] == "put" else shelf.drop)(*call[1:])
        return shelf

    def test_the_same_calls(self):
        rows = pool(2)
        calls = [("put", "a", rows[2]), ("put", "b", rows[3]), ("drop", "a"), ("put", "b", rows[4])]
        for number in range(5):
            for one, other in zip(self.shelves(2), self.shelves(2)):
                self.assert_equal(self.filled(one, *calls[:number]), self.filled(other, *calls[:number]))
            # The very same rows are not needed, but equal ones.
            again = [(call[0], call[1]) + tuple(Row(row.book, row.coefficients) for row in call[2:]) for call in calls]
            self.assert_equal(self.filled(Shelf(2), *calls), self.filled(Shelf(2), *again))

    def test_other_titles_or_rows(self):
        rows = pool(2)
        one = self.filled(Shelf(2), ("put", "a", rows[2]))
        for call in (("put", "b", rows[2]), ("put", "a", rows[3]), ("put", "a", rows[5]), ("put", "a", rows[8])):
            self.assert_unequal(one, self.filled(Shelf(2), call))
        self.assert_unequal(one, Shelf(2))
        self.assert_unequal(one, self.filled(Shelf(2), ("put", "a", rows[2]), ("put", "b", rows[2])))

    def test_the_same_rows_by_another_story(self):
        row, other = pool(3)[2], pool(3)[3]
        stories = [
            [("put", "a", row), ("put", "b", other)], [("put", "b", other), ("put", "a", row)],
            [("put", "a", other), ("put", "a", row), ("put", "b", other)],
            [("put", "a", row), ("put", "b", other), ("put", "b", other)],
            [("put", "a", row), ("put", "b", other), ("drop", "a"), ("put", "a", row)],
            [("put", "a", row), ("put", "c", row), ("put", "b", other), ("drop", "c")],
        ]
        for number, calls in enumerate(stories):
            for other_number, other_calls in enumerate(stories):
                one, two = self.filled(Shelf(3), *calls), self.filled(Shelf(3), *other_calls)
                self.assertEqual([one.titles, one.row_on("a"), one.row_on("b")], [two.titles, row, other])
                if number == other_number:
                    self.assert_equal(one, two)
                else:
                    self.assert_unequal(one, two)

    def test_calls_that_are_taken_back_leave_nothing(self):
        row, other = pool(2)[2], pool(2)[3]
        calls = [("put", "a", row), ("put", "a", other), ("undo",), ("drop", "a"), ("undo",), ("put", "c", row), ("undo",)]
        self.assert_equal(self.filled(Shelf(2), *calls), self.filled(Shelf(2), calls[0]))
        self.assert_equal(self.filled(Shelf(2), calls[0], ("undo",)), Shelf(2))

    def test_shelves_without_rows_and_with_a_story(self):
        self.assert_unequal(self.filled(Shelf(2), ("put", "a", nothing(2)), ("drop", "a")), Shelf(2))

    def test_a_shelf_is_not_equal_to_anything_else(self):
        row = row_named(Book(*ONES), "o")
        for shelf in self.shelves(2):
            for thing in (None, 0, 2, "", [], (), {}, set(), row, row.book, Shelf, SmallShelf, object()):
                self.assert_unequal(shelf, thing)
            self.assertFalse(shelf == Like())
            shelf.put("a", row)
            for thing in ([("put", "a", row)], {"a": row}, ["a"], [row], row, 1):
                self.assert_unequal(shelf, thing)


class Wide(ShelfCase):

    def test_rows_that_are_products(self):
        row = row_named(Book(*STERN), "s")
        shelf = SmallShelf(2, 3)
        shelf.put("a", product(row, row))
        self.refused(TooWide, 4, shelf.put, "b", product(product(row, row), row))


if __name__ == "__main__":
    unittest.main()

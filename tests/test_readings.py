"""The interface of `read_book` and `read_row`, and promises [2], [3] and [4] for them."""

import re
import unittest

from figurebooks import readings
from figurebooks.books import Book
from figurebooks.errors import Unreadable
from figurebooks.forms import plain
from figurebooks.joins import added
from figurebooks.readings import read_book, read_row
from figurebooks.rows import Row, row_named
from figurebooks.texts import show_book, show_row
from tests.samples import BOOKS, FOURS, MIXED, ONES, STERN
from tests.samples import alone_book, chain_book, coarse_book, coarse_coefficients, falling_book
from tests.samples import place_book, sound_book

INTEGER = "(?:0|-?[1-9][0-9]{0,39})"
TERM = f"{INTEGER} [a-z]"
FORMULA = rf"(?:0|{TERM}(?: \+ {TERM})*)"
NAMED = rf" [a-z] {INTEGER}(?: \| {FORMULA})*"
BOOK = re.compile(f"([234]):((?:{NAMED}(?:;{NAMED})*)?)")
ROW = re.compile(f"(none|{INTEGER}(?: {INTEGER})*) of (.*)", re.DOTALL)

FORTY = "1234567890" * 4
SIGNS = " |+;:-0123456789abeostzqu.,_nf\n\t~"
# Digits, spaces and letters of other scripts, and a digit above the line.
STRANGE = "\u0661\u0967\uff11\u00b2\u00bd\u2003\u00a0\u200b\uff41\u0430\u2212\u00e9\U0001d7cf"


def oracle_book(text):
    """Return what makes the book with a text, None if there is none: the words of the interface as patterns."""
    match = BOOK.fullmatch(text)
    if match is None:
        return None
    base, rows = int(match[1]), []
    for part in match[2].split(";") if match[2] else []:
        head, *formulas = part[1:].split(" | ")
        told = [[] if formula == "0" else [(int(term[:-2]), term[-1]) for term in formula.split(" + ")]
                for formula in formulas]
        rows.append((head[0], int(head[2:]), told))
    starts = {name: start for name, start, _ in rows}
    if len(starts) < len(rows):
        return None
    for name, start, formulas in rows:
        if len(formulas) != base or any(other not in starts for terms in formulas for _, other in terms):
            return None
        if start != sum(factor * starts[other] for factor, other in formulas[0]):
            return None
    return base, rows


def oracle_row(text):
    """Return what makes the row with a text, None if there is none."""
    match = ROW.fullmatch(text)
    told = match and oracle_book(match[2])
    if not told:
        return None
    coefficients = [] if match[1] == "none" else [int(word) for word in match[1].split(" ")]
    return told + (coefficients,) if len(coefficients) == len(told[1]) else None


def changed(text, signs):
    """Return all texts with one sign left out, put in or exchanged, or two exchanged with each other."""
    found = [text[:at] + text[at + 1:] for at in range(len(text))]
    found += [text[:at] + sign + text[at:] for at in range(len(text) + 1) for sign in signs]
    found += [text[:at] + sign + text[at + 1:] for at in range(len(text)) for sign in signs]
    return found + [text[:at] + text[at + 1] + text[at] + text[at + 2:] for at in range(len(text) - 1)]


def books():
    """Return what makes books of no row to six."""
    found = BOOKS + [(base, []) for base in (2, 3, 4)] + [place_book(base) for base in (2, 3, 4)]
    found += [sound_book(seed, 2 + seed % 3) for seed in range(6)] + [alone_book(2, 9), falling_book(4, 4, 6)]
    found += [coarse_book(seed, 2 + seed % 3, seed % 7) for seed in range(14)] + [chain_book(3, 6, -2, 5)]
    return found + [(2, [("a", 0, [[], []]), ("z", 0, [[(0, "a")], [(-9, "z"), (9, "z"), (-9, "z")]])])]


class ReadingCase(unittest.TestCase):

    def assert_unreadable(self, function, text):
        with self.subTest(text):
            with self.assertRaises(Unreadable) as context:
                function(text)
            self.assertIs(type(context.exception), Unreadable)
            self.assertEqual(context.exception.value, text)

    def assert_book(self, text):
        """Assert that a text is read as the oracle reads it; tell whether it is that of a book."""
        told = oracle_book(text)
        if told is None:
            self.assert_unreadable(read_book, text)
        else:
            self.assertEqual(read_book(text), Book(*told))
            self.assertEqual(show_book(read_book(text)), text)
        return told is not None

    def assert_row(self, text):
        """Assert that a text is read as the oracle reads it; tell whether it is that of a row."""
        told = oracle_row(text)
        if told is None:
            self.assert_unreadable(read_row, text)
        else:
            base, rows, coefficients = told
            self.assertEqual(read_row(text), Row(Book(base, rows), coefficients))
            self.assertEqual(show_row(read_row(text)), text)
        return told is not None


class There(ReadingCase):

    def test_books(self):
        for base, rows in books():
            book = Book(base, rows)
            self.assertEqual(read_book(show_book(book)), book)
            self.assertTrue(self.assert_book(show_book(book)))

    def test_rows(self):
        for index, (base, rows) in enumerate(books()):
            for coefficients in ([0] * len(rows), coarse_coefficients(index, len(rows)), [10 ** 30] * len(rows)):
                row = Row(Book(base, rows), coefficients)
                self.assertEqual(read_row(show_row(row)), row)
                self.assertTrue(self.assert_row(show_row(row)))

    def test_plain_rows(self):
        for base, rows in books():
            row = plain(Row(Book(base, rows), coarse_coefficients(3, len(rows))))
            self.assertEqual(read_row(show_row(row)), row)

    def test_known_ones(self):
        self.assertEqual(read_book("2: o 0 | 1 o | 1 o + 1 e; e 1 | 1 e | 1 e"), Book(*ONES))
        self.assertEqual(read_row("2 -1 of 2: o 0 | 1 o | 1 o + 1 e; e 1 | 1 e | 1 e"), Row(Book(*ONES), [2, -1]))
        self.assertEqual(read_row("none of 4:"), Row(Book(4, []), []))
        self.assertEqual(read_book("4: n 0 | 0 | 0 | 0 | 0"), Book(4, [("n", 0, [[], [], [], []])]))
        self.assertEqual(read_book("2: n 0 | 0 n | 0"), Book(2, [("n", 0, [[(0, "n")], []])]))

    def test_integers_of_forty_digits(self):
        for sign in ("", "-"):
            number = int(sign + FORTY)
            text = f"2: a {sign}{FORTY} | 1 a | {sign}{FORTY} a"
            self.assertEqual(read_book(text), Book(2, [("a", number, [[(1, "a")], [(number, "a")]])]))
            self.assertEqual(read_row(f"{sign}{FORTY} of {text}"), Row(read_book(text), [number]))

    def test_a_name_twice_in_a_formula_and_empty_formulas(self):
        text = "3: a 2 | 3 a + -1 a + -1 a | 0 | 1 a + 1 a"
        rows = [("a", 2, [[(3, "a"), (-1, "a"), (-1, "a")], [], [(1, "a"), (1, "a")]])]
        self.assertEqual(read_book(text), Book(3, rows))


class Changed(ReadingCase):

    def test_one_sign_of_the_text_of_a_book(self):
        readable = 0
        for base, rows in [ONES, STERN, MIXED, FOURS, (2, []), (4, []), alone_book(3, 5), place_book(2)]:
            text = show_book(Book(base, rows))
            for other in changed(text, SIGNS):
                readable += other != text and self.assert_book(other)
        self.assertGreater(readable, 300)

    def test_one_sign_of_the_text_of_a_row(self):
        readable = 0
        for base, rows, coefficients in [ONES + ([2, -1],), MIXED + ([0, 10, -99],), (3, [], []), alone_book(2, 1) + ([7, 0],)]:
            text = show_row(Row(Book(base, rows), coefficients))
            for other in changed(text, SIGNS + "ofn"):
                readable += other != text and self.assert_row(other)
        self.assertGreater(readable, 100)

    def test_signs_that_look_like_others(self):
        for text in [show_book(Book(*ONES)), show_book(Book(*MIXED))]:
            for other in changed(text, STRANGE):
                if not set(STRANGE).isdisjoint(other):
                    self.assert_unreadable(read_book, other)
        for text in ["2 -1 of " + show_book(Book(*ONES)), "none of 3:"]:
            for other in changed(text, STRANGE):
                if not set(STRANGE).isdisjoint(other):
                    self.assert_unreadable(read_row, other)

    def test_texts_cut_off_and_put_together(self):
        for base, rows in BOOKS:
            text = show_book(Book(base, rows))
            for at in range(len(text)):
                self.assert_book(text[:at])
                self.assert_book(text[at:])
                self.assert_book(text[:at] + text)
                self.assert_row("1 " * at + "of " + text)
            words = text.split(" ")
            for at in range(len(words)):
                self.assert_book(" ".join(words[:at] + words[at + 1:]))
                self.assert_book(" ".join(words[:at] + words[at:at + 1] + words[at:]))

    def test_strange_signs_do_not_stand_at_the_ends(self):
        for sign in STRANGE + " \n\t\r\x0b\x0c\x1c\x85":
            for text in ("2:", show_book(Book(*ONES))):
                self.assert_unreadable(read_book, sign + text)
                self.assert_unreadable(read_book, text + sign)
                self.assert_unreadable(read_row, "none of " + text + sign)
                self.assert_unreadable(read_row, sign + "none of " + text)


class Nothing(ReadingCase):

    def refuse(self, *told):
        for text in told:
            self.assertIsNone(oracle_book(text))
            self.assert_unreadable(read_book, text)
            self.assert_unreadable(read_row, "1 of " + text)
            self.assert_unreadable(read_row, "none of " + text)
            self.assert_unreadable(read_row, text)

    def refuse_rows(self, *told):
        for text in told:
            self.assertIsNone(oracle_row(text))
            self.assert_unreadable(read_row, text)
            self.assert_unreadable(read_book, text)

    def test_the_empty_text_and_others_that_are_short(self):
        self.refuse("", " ", ":", "2", "2 ", " 2:", "2: ", "2:  ", "2 :", "2::", "2:;", "2: ;", "of", "none", "0")
        self.refuse_rows("", "none of ", "none of 2", " of 2:", "of 2:", "none of  2:", "none  of 2:", "noneof 2:",
                         "none of2:", "None of 2:", "nona of 2:", "none of 2: ", " none of 2:", "none none of 2:",
                         "none of none of 2:", "0 of 2:", "none 0 of 2:", "0 none of 2:", "of of 2:", "none of", "none of :")

    def test_other_bases(self):
        for base in ("0", "1", "5", "6", "10", "12", "22", "-2", "+2", "02", "2.0", "a", "", "two", FORTY):
            self.refuse(f"{base}:", f"{base}: z 1 | 1 z | 0", f"{base}: z 0" + " | 0" * 5)

    def test_leading_noughts_and_signs(self):
        for number in ("00", "01", "-0", "+1", "+0", "-01", "--1", "-", "+", "1-", "1+", "1.", "1.0", "1e0", "1_0",
                       "0x1", "- 1", "1 1", "1,0", "0b1", "1L", "()", "x"):
            self.refuse(f"2: a {number} | 0 | 0", f"2: a 0 | {number} a | 0", f"2: a 0 | 0 | {number} a",
                        f"2: a 0 | 0 | 1 a + {number} a", f"2: a {number} | 1 a | 0")
            self.refuse_rows(f"{number} of 2: a 0 | 0 | 0")
            self.refuse(f"2: a 0 | {number} | 0")
        self.refuse("2: a -0 | 0 | 0", "2: a 00 | 0 | 0", "2: a 0 | 00 | 0", "2: a 0 | -0 | 0", "2: a 0 | 1 | 0")

    def test_integers_of_more_than_forty_digits(self):
        for digits in (FORTY + "1", FORTY + "0", "1" + "0" * 40, "9" * 41, "1" * 100, "1" * 1500):
            for number in (digits, "-" + digits):
                self.refuse(f"2: a {number} | 1 a | 0", f"2: a 0 | 0 | {number} a", f"2: a 0 | {number} a | 0")
                self.refuse_rows(f"{number} of 2: a 0 | 0 | 0")
        self.refuse(f"2: a {'0' * 41} | 0 | 0", f"2: a 0{FORTY} | 1 a | 0")

    def test_spaces(self):
        for text in ("2:  a 0 | 0 | 0", "2: a  0 | 0 | 0", "2: a 0  | 0 | 0", "2: a 0 |  0 | 0", "2: a 0 | 0 | 0 ",
                     " 2: a 0 | 0 | 0", "2: a 0 | 0 | 1  a", "2: a 0 | 0 | 1 a  + 1 a", "2: a 0 | 0 | 1 a +  1 a",
                     "2:a 0 | 0 | 0", "2: a0 | 0 | 0", "2: a 0| 0 | 0", "2: a 0 |0 | 0", "2: a 0 | 0 | 1a",
                     "2: a 0 | 0 | 1 a+ 1 a", "2: a 0 | 0 | 1 a +1 a", "2: a 0 | 0 | 0;b 0 | 0 | 0",
                     "2: a 0 | 0 | 0 ; b 0 | 0 | 0", "2: a 0 | 0 | 0;  b 0 | 0 | 0", "2 : a 0 | 0 | 0",
                     "2: a 0 || 0 | 0", "2: a 0 | | 0", "2: a 0 |  | 0"):
            self.refuse(text)
        self.refuse_rows("1  2 of 2: a 0 | 0 | 0; b 0 | 0 | 0", "1 2  of 2: a 0 | 0 | 0; b 0 | 0 | 0",
                         "1 2 of  2: a 0 | 0 | 0; b 0 | 0 | 0", "12 of 2: a 0 | 0 | 0; b 0 | 0 | 0",
                         " 1 2 of 2: a 0 | 0 | 0; b 0 | 0 | 0", "1 2of 2: a 0 | 0 | 0; b 0 | 0 | 0")

    def test_semicolons(self):
        self.refuse("2: a 0 | 0 | 0;", "2:; a 0 | 0 | 0", "2: a 0 | 0 | 0;; b 0 | 0 | 0", "2: a 0 | 0 | 0; ",
                    "2: a 0 | 0 | 0, b 0 | 0 | 0", "2: a 0 | 0 | 0 b 0 | 0 | 0", "2: a 0 | 0 | 0: b 0 | 0 | 0")

    def test_names(self):
        for name in ("A", "ab", "0", "1", "", "-", "a.", "~", "|", "+", "none", ";", ":"):
            self.refuse(f"2: {name} 0 | 0 | 0", f"2: a 0 | 0 | 1 {name}", f"2: a 0 | 0 | 0; {name} 0 | 0 | 0")
        self.refuse("2: a 0 | 0 | 0; a 0 | 0 | 0", "2: a 0 | 0 | 0; b 0 | 0 | 0; a 1 | 1 a | 0",
                    "2: a 0 | 0 | 1 b", "2: a 0 | 1 b | 0", "2: a 0 | 0 | 1 a + 1 c; b 0 | 0 | 0")

    def test_too_few_or_too_many_formulas(self):
        for base in (2, 3, 4):
            for number in range(7):
                text = f"{base}: a 0" + " | 0" * number
                if number == base:
                    self.assertTrue(self.assert_book(text))
                else:
                    self.refuse(text, text + "; b 0" + " | 0" * base, f"{base}: b 0" + " | 0" * base + "; a 0" + " | 0" * number)

    def test_a_start_that_the_formula_does_not_make(self):
        self.refuse("2: a 1 | 0 | 0", "2: a 1 | 2 a | 0", "2: a 0 | 1 b | 0; b 1 | 1 b | 0", "2: a -1 | -1 a | 0",
                    "2: a 1 | 1 a + 1 a | 0", "2: b 1 | 1 b | 0; a 2 | 1 b | 0")

    def test_too_few_or_too_many_coefficients(self):
        book = show_book(Book(*ONES))
        self.refuse_rows(f"1 of {book}", f"1 2 3 of {book}", f"none of {book}", f" of {book}", f"of {book}",
                         f"1 2 {book}", f"1 2 of of {book}", f"1 2 of 1 2 of {book}", f"1 2 none of {book}",
                         f"none 1 2 of {book}", "none of 2: a 0 | 0 | 0", "0 of 3:", "0 0 of 3:", f"1 2 Of {book}")
        self.assertEqual(read_row(f"1 2 of {book}"), Row(Book(*ONES), [1, 2]))

    def test_the_text_of_the_other_thing(self):
        for base, rows in books():
            row = Row(Book(base, rows), [1] * len(rows))
            self.assert_unreadable(read_row, show_book(row.book))
            self.assert_unreadable(read_book, show_row(row))

    def test_long_texts(self):
        for sign in "0129a|+;: -~of":
            for number in (1, 2, 3, 1999, 2000):
                self.assert_unreadable(read_book, sign * number)
                self.assert_unreadable(read_row, sign * number)
        self.refuse("2:" + " a" * 900, "2: a 0 |" + " 0 |" * 400, "2: a 0 | 0 | " + "1 a + " * 300,
                    "2: " + "; ".join(f"{name} 0 | 0 | 0" for name in "abcdefghijklmnopqrstuvwxyza"))
        self.assertEqual(len(read_book("2: " + "; ".join(f"{name} 0 | 0 | 0" for name in "abcdefghijklmnopqrstuvwxyz")).names), 26)
        self.assertEqual(len(read_book("2: a 0 | 0 | " + " + ".join(["1 a"] * 300)).formulas_of("a")[1]), 300)


class Arguments(unittest.TestCase):

    def test_arguments_by_name(self):
        self.assertEqual(read_book(text="2:"), Book(2, []))
        self.assertEqual(read_row(text="none of 2:"), Row(Book(2, []), []))
        for function in (read_book, read_row):
            with self.assertRaises(Unreadable) as context:
                function(text="2")
            self.assertEqual(context.exception.value, "2")

    def test_the_value_is_the_whole_text(self):
        text = "2: a 0 | 0 | 01 a"
        for function, whole in ((read_book, text), (read_row, "1 of " + text), (read_row, "01 of 2: a 0 | 0 | 0")):
            with self.assertRaises(Unreadable) as context:
                function(whole)
            self.assertIs(context.exception.value, whole)

    def test_what_was_returned_may_be_passed_on(self):
        row = read_row(show_row(Row(Book(*STERN), [1, 0])))
        self.assertEqual(added(row, row_named(read_book(show_book(row.book)), "t")).first_values(4), [1, 2, 3, 3])
        row.coefficients.clear()
        row.book.formulas_of("s").clear()
        self.assertEqual(row, Row(Book(*STERN), [1, 0]))

    def test_the_listed_functions_are_defined_in_their_file(self):
        for name in ("read_book", "read_row"):
            self.assertEqual(getattr(readings, name).__module__, "figurebooks.readings")


if __name__ == "__main__":
    unittest.main()

"""Promise [3]: the classes of errors."""

import unittest

from figurebooks import errors

NAMES = [
    "InvalidBase", "InvalidName", "InvalidFormula", "Unsound", "InvalidNumber", "InvalidStretch",
    "InvalidRest", "InvalidFigure", "UnlikeBases", "TooWide", "NothingToUndo", "Unreadable",
]
CLASSES = [getattr(errors, name) for name in NAMES]
GIVEN = [0, -10 ** 30, (2, 3), [1, [2]], "a text", "", None, object()]


class Errors(unittest.TestCase):

    def test_every_class_is_defined_in_its_file(self):
        for name in ["BookError"] + NAMES:
            with self.subTest(name):
                told = getattr(errors, name)
                self.assertEqual((told.__name__, told.__module__), (name, "figurebooks.errors"))

    def test_the_value_is_the_very_thing_given_by_position(self):
        for told in [errors.BookError] + CLASSES:
            for value in GIVEN:
                with self.subTest(told=told, value=value):
                    self.assertIs(told(value).value, value)

    def test_the_value_is_the_very_thing_given_by_name(self):
        for told in [errors.BookError] + CLASSES:
            for value in GIVEN:
                with self.subTest(told=told, value=value):
                    self.assertIs(told(value=value).value, value)

    def test_one_argument_no_more_and_no_less(self):
        for told in [errors.BookError] + CLASSES:
            with self.subTest(told):
                self.assertRaises(TypeError, told)
                self.assertRaises(TypeError, told, 1, 2)

    def test_book_error_is_a_direct_subclass_of_value_error(self):
        self.assertEqual(errors.BookError.__bases__, (ValueError,))

    def test_every_other_class_is_a_direct_subclass_of_book_error(self):
        for told in CLASSES:
            with self.subTest(told):
                self.assertEqual(told.__bases__, (errors.BookError,))

    def test_no_other_class_is_a_subclass_of_another_one(self):
        for told in CLASSES:
            for other in CLASSES:
                with self.subTest(told=told, other=other):
                    self.assertEqual(issubclass(told, other), told is other)

    def test_raised_errors_are_caught_as_book_errors_and_value_errors(self):
        for told in CLASSES:
            for caught in (told, errors.BookError, ValueError):
                with self.subTest(told=told, caught=caught):
                    with self.assertRaises(caught) as context:
                        raise told((1, 2))
                    self.assertEqual(context.exception.value, (1, 2))


if __name__ == "__main__":
    unittest.main()

"""What the tests of errors share."""

import unittest


class RefusalCase(unittest.TestCase):

    def refused(self, error, value, function, *arguments):
        """Assert that a call raises just this error, with this value."""
        with self.assertRaises(error) as context:
            function(*arguments)
        self.assertIs(type(context.exception), error)
        self.assertEqual(context.exception.value, value)
        self.assertIs(type(context.exception.value), type(value))

"""What the tests of equality share."""

import unittest


class Like:
    """Something that calls itself equal to everything."""

    def __eq__(self, other):
        return True


class EqualityCase(unittest.TestCase):
    """Asserts equality by both signs and from both sides."""

    def assert_equal(self, one, other):
        self.assertTrue(one == other and other == one)
        self.assertFalse(one != other or other != one)

    def assert_unequal(self, one, other):
        self.assertFalse(one == other or other == one)
        self.assertTrue(one != other and other != one)

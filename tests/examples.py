"""What the tests of the examples in the interface share."""

import doctest
import unittest


class ExampleCase(unittest.TestCase):

    def assert_example(self, text):
        """Assert that each line of an example gives what stands below it, word for word."""
        test = doctest.DocTestParser().get_doctest(text, {}, "interface", None, 0)
        outcome = doctest.DocTestRunner(verbose=False).run(test)
        self.assertEqual((outcome.failed, outcome.attempted), (0, text.count(">>>")))
        self.assertGreater(outcome.attempted, 0)

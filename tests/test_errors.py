"""The interface under leastasked/errors.py."""

import itertools
import unittest

from leastasked.errors import NoName, NoNumber, NoRule, ShelfError

REFUSALS = (NoName, NoNumber, NoRule)


class Errors(unittest.TestCase):
    def test_shelf_error_is_a_value_error(self):
        self.assertTrue(issubclass(ShelfError, ValueError))
        self.assertIsNot(ShelfError, ValueError)

    def test_each_refusal_is_a_shelf_error(self):
        for refusal in REFUSALS:
            with self.subTest(refusal=refusal):
                self.assertTrue(issubclass(refusal, ShelfError))
                self.assertIsNot(refusal, ShelfError)

    def test_no_refusal_stands_under_another(self):
        for one, other in itertools.permutations(REFUSALS, 2):
            with self.subTest(one=one, other=other):
                self.assertFalse(issubclass(one, other))

    def test_names_are_their_own(self):
        for error, name in zip((ShelfError,) + REFUSALS, ("ShelfError", "NoName", "NoNumber", "NoRule")):
            self.assertEqual((error.__module__, error.__name__), ("leastasked.errors", name))

    def test_each_is_raised_and_taken_as_any_refusal(self):
        for refusal in REFUSALS:
            for taken in (refusal, ShelfError, ValueError):
                with self.subTest(refusal=refusal, taken=taken):
                    with self.assertRaises(taken):
                        raise refusal("no")


if __name__ == "__main__":
    unittest.main()

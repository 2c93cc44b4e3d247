"""[1] and the interface of askbook/errors.py."""

import unittest

from askbook import errors
from askbook.errors import (
    AskError, NoAsking, NoBonds, NoBook, NoColumns, NoRules, NoText, NoTree, Unlike,
)

REFUSALS = [NoBook, NoAsking, Unlike, NoTree, NoRules, NoBonds, NoColumns, NoText]


class RefusalsTest(unittest.TestCase):
    def test_ask_error_is_a_value_error(self):
        self.assertEqual(AskError.__bases__, (ValueError,))

    def test_each_refusal_is_an_ask_error_and_a_value_error(self):
        for refusal in REFUSALS:
            with self.subTest(refusal=refusal.__name__):
                self.assertTrue(issubclass(refusal, AskError))
                self.assertTrue(issubclass(refusal, ValueError))

    def test_none_of_the_eight_is_another_one(self):
        for one in REFUSALS:
            for other in REFUSALS:
                with self.subTest(one=one.__name__, other=other.__name__):
                    self.assertEqual(issubclass(one, other), one is other)

    def test_ask_error_is_none_of_the_eight(self):
        for refusal in REFUSALS:
            self.assertFalse(issubclass(AskError, refusal))

    def test_each_is_raised_and_taken_by_its_name(self):
        for refusal in REFUSALS:
            with self.subTest(refusal=refusal.__name__):
                with self.assertRaises(refusal) as taken:
                    raise refusal("some words")
                self.assertEqual(str(taken.exception), "some words")

    def test_each_bears_its_own_name_in_the_file(self):
        names = ["NoBook", "NoAsking", "Unlike", "NoTree", "NoRules", "NoBonds", "NoColumns", "NoText"]
        self.assertEqual([refusal.__name__ for refusal in REFUSALS], names)
        for name, refusal in zip(names, REFUSALS):
            self.assertIs(getattr(errors, name), refusal)


if __name__ == "__main__":
    unittest.main()

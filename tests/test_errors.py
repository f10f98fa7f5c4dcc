"""[0.22]: the errors, their bases and what they keep."""

import unittest

from tametrees import errors
from tametrees.trees.trees import Tree

MESSAGE_ERRORS = ("InvalidTree", "InvalidRow", "InvalidClass", "InvalidTable", "InvalidFraction", "InvalidOperation")
KEEPING = (
    ("ParseError", "spot", errors.TreeError), ("InvalidNumber", "given", IndexError), ("UnknownName", "name", KeyError),
    ("TooMany", "limit", OverflowError), ("Refused", "reason", ArithmeticError), ("NothingToUndo", "steps", LookupError),
)


class Errors(unittest.TestCase):
    def test_tree_error_is_a_value_error(self):
        self.assertEqual(errors.TreeError.__bases__, (ValueError,))

    def test_errors_with_a_message_come_directly_from_tree_error(self):
        for name in MESSAGE_ERRORS:
            with self.subTest(name):
                kind = getattr(errors, name)
                self.assertEqual(kind.__bases__, (errors.TreeError,))
                self.assertEqual(str(kind("what is wrong")), "what is wrong")
        self.assertEqual(str(errors.TreeError("what is wrong")), "what is wrong")

    def test_the_other_errors_have_the_told_base(self):
        for name, _, base in KEEPING:
            with self.subTest(name):
                self.assertEqual(getattr(errors, name).__bases__, (base,))

    def test_only_tree_errors_are_value_errors(self):
        for name, _, base in KEEPING:
            with self.subTest(name):
                self.assertEqual(issubclass(getattr(errors, name), ValueError), base is errors.TreeError)

    def test_no_error_is_derived_from_another_one(self):
        kinds = [getattr(errors, name) for name in MESSAGE_ERRORS] + [getattr(errors, name) for name, _, _ in KEEPING]
        for one in kinds:
            for other in kinds:
                self.assertEqual(issubclass(one, other), one is other)

    def test_errors_keep_any_value_in_their_attribute(self):
        values = [None, True, 7, 10 ** 99, "word", ("bar",), [1, [2]], {"a": 1}, Tree((2,), ()), ValueError("x")]
        for name, attribute, _ in KEEPING:
            for value in values:
                with self.subTest(name, value=repr(value)):
                    error = getattr(errors, name)(value)
                    self.assertIs(getattr(error, attribute), value)
                    with self.assertRaises(getattr(errors, name)) as caught:
                        raise error
                    self.assertIs(getattr(caught.exception, attribute), value)

    def test_errors_are_caught_by_their_bases(self):
        for name, _, base in KEEPING:
            with self.subTest(name), self.assertRaises(base):
                raise getattr(errors, name)((1, 2))


if __name__ == "__main__":
    unittest.main()

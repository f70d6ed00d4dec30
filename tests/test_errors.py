"""[2] and the interface: the error classes."""

import unittest

from onesymbol import errors

NAMES = ["NoKind", "NoSpelling", "TooLong", "NoIdentifier", "NoIndex", "NoArguments", "NoPath", "Twice"]


class ErrorsTest(unittest.TestCase):

    def test_all_stand_directly_under_symbol_error(self):
        self.assertEqual(errors.SymbolError.__bases__, (ValueError,))
        for name in NAMES:
            self.assertEqual(getattr(errors, name).__bases__, (errors.SymbolError,), name)

    def test_no_class_under_another_one(self):
        for one in NAMES:
            for other in NAMES:
                if one != other:
                    self.assertFalse(issubclass(getattr(errors, one), getattr(errors, other)), (one, other))

    def test_each_is_constructed_with_a_message(self):
        for name in NAMES + ["SymbolError"]:
            error = getattr(errors, name)("what was wrong")
            self.assertIsInstance(error, ValueError)
            self.assertEqual(str(error), "what was wrong", name)

    def test_at_of_no_spelling(self):
        self.assertEqual(errors.NoSpelling("why").at, 0)
        self.assertEqual(errors.NoSpelling("why", 7).at, 7)
        self.assertEqual(errors.NoSpelling("why", at=8).at, 8)
        error = errors.NoSpelling(at=9, why="why")
        self.assertEqual((error.at, str(error)), (9, "why"))

    def test_raised_and_caught(self):
        for name in NAMES:
            with self.assertRaises(errors.SymbolError):
                raise getattr(errors, name)("message")


if __name__ == "__main__":
    unittest.main()

"""The classes of what is refused, as the interface lists them."""

import unittest

from turnless import errors
from turnless.errors import TurnError

PLAIN = [
    "NoProblem", "TooMany", "NoTurn", "NoLetter", "NoStep", "NoWay", "NoPart", "NoAnswer", "NoAsk", "Twice",
]
WITH_AT = ["NoClause", "NotThere", "NoLog", "NoDeed"]
WITH_ROW = ["NoText"]


class Errors(unittest.TestCase):
    def test_turn_error_is_a_value_error(self):
        self.assertEqual(TurnError.__bases__, (ValueError,))

    def test_each_stands_under_turn_error_alone(self):
        for name in PLAIN + WITH_AT + WITH_ROW:
            with self.subTest(name):
                self.assertEqual(getattr(errors, name).__bases__, (TurnError,))

    def test_there_are_no_others(self):
        found = [name for name in vars(errors) if not name.startswith("_")]
        self.assertEqual(sorted(found), sorted(["TurnError"] + PLAIN + WITH_AT + WITH_ROW))

    def test_plain_ones_are_raised_and_caught(self):
        for name in PLAIN:
            kind = getattr(errors, name)
            with self.subTest(name):
                with self.assertRaises(TurnError):
                    raise kind()
                with self.assertRaises(ValueError):
                    raise kind("a word")

    def test_at_is_kept(self):
        for name in WITH_AT:
            kind = getattr(errors, name)
            for at in (0, 7, None):
                with self.subTest(name, at=at):
                    self.assertEqual(kind(at).at, at)
                    self.assertEqual(kind(at=at).at, at)

    def test_row_is_kept(self):
        for name in WITH_ROW:
            kind = getattr(errors, name)
            for row in (0, 7):
                with self.subTest(name, row=row):
                    self.assertEqual(kind(row).row, row)
                    self.assertEqual(kind(row=row).row, row)


if __name__ == "__main__":
    unittest.main()

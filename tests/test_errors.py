"""Promise 2 and ownmarks/errors.py: the errors and their fields."""

import unittest

from ownmarks import errors
from ownmarks.errors import (BadArgument, BadChange, BadCommand, BadCrowd, BadMark, BadNumber, BadPage, BadPair, BadRule,
                             BadText, MarksError, NotThere, NothingLeft, TooMany)
from tests.helping import ODD

UNDER_MARKS_ERROR = [(BadCrowd, "part"), (BadPage, "value"), (BadRule, "part"), (BadPair, "value"), (BadMark, "value"),
                     (BadArgument, "value"), (BadNumber, "number"), (BadChange, "value"), (BadCommand, "command"),
                     (BadText, "line")]
WITH_FIELD = UNDER_MARKS_ERROR + [(TooMany, "most"), (NotThere, "word")]
ALL = [kind for kind, _ in WITH_FIELD] + [NothingLeft]


class ErrorsTest(unittest.TestCase):
    def test_bases(self):
        self.assertEqual(MarksError.__bases__, (ValueError,))
        for kind, _ in UNDER_MARKS_ERROR:
            self.assertEqual(kind.__bases__, (MarksError,))
        self.assertEqual(TooMany.__bases__, (OverflowError,))
        self.assertEqual(NotThere.__bases__, (LookupError,))
        self.assertEqual(NothingLeft.__bases__, (LookupError,))

    def test_none_is_another_one(self):
        for kind in ALL:
            for other in ALL:
                self.assertEqual(issubclass(kind, other), kind is other)
        for kind in (TooMany, NotThere, NothingLeft):
            self.assertFalse(issubclass(kind, MarksError))

    def test_defined_in_their_file(self):
        for kind in ALL + [MarksError]:
            self.assertEqual(kind.__module__, "ownmarks.errors")
            self.assertIs(getattr(errors, kind.__name__), kind)

    def test_fields(self):
        for kind, field in WITH_FIELD:
            for value in ODD + ["people", 4096, ["a", ["b"]]]:
                self.assertIs(getattr(kind(value), field), value)
                self.assertIs(getattr(kind(**{field: value}), field), value)

    def test_fields_are_asked_for(self):
        for kind, field in WITH_FIELD:
            with self.assertRaises(TypeError):
                kind()
            with self.assertRaises(TypeError):
                kind(1, 2)
            with self.assertRaises(TypeError):
                kind(**{field + "s": 1})

    def test_raised_and_caught(self):
        for kind, field in WITH_FIELD:
            with self.assertRaises(kind) as caught:
                raise kind("w")
            self.assertEqual(getattr(caught.exception, field), "w")
            self.assertIsInstance(repr(caught.exception), str)
            self.assertIsInstance(str(caught.exception), str)

    def test_made_as_value_error_is(self):
        self.assertEqual(MarksError().args, ())
        self.assertEqual(MarksError("one", 2).args, ("one", 2))
        self.assertEqual(str(MarksError("one")), "one")
        self.assertEqual(NothingLeft().args, ())


if __name__ == "__main__":
    unittest.main()

"""The refusals, and their fields."""

import unittest

from stillweb import errors
from stillweb.errors import (NoKind, NoMessenger, NoName, NoRow, NoStep, NoText, TooLong, TooMany, Twice, Unknown,
                             WebError)

FIELDS = {
    NoText: "at",
    Twice: "name",
    NoName: "at",
    NoKind: "at",
    TooLong: "most",
    TooMany: "most",
    Unknown: "name",
    NoStep: None,
    NoRow: None,
    NoMessenger: None,
}


def made(refusal, thing):
    return refusal() if FIELDS[refusal] is None else refusal(thing)


class Refusals(unittest.TestCase):
    def test_web_error(self):
        self.assertEqual(WebError.__bases__, (ValueError,))

    def test_each_is_right_under_web_error(self):
        for refusal in FIELDS:
            self.assertEqual(refusal.__bases__, (WebError,), refusal)

    def test_none_is_another(self):
        for refusal in FIELDS:
            error = made(refusal, 3)
            self.assertIsInstance(error, WebError)
            self.assertIsInstance(error, ValueError)
            for other in FIELDS:
                self.assertEqual(isinstance(error, other), other is refusal, (refusal, other))

    def test_there_are_no_others(self):
        there = {thing for thing in vars(errors).values() if isinstance(thing, type)}
        self.assertEqual(there, set(FIELDS) | {WebError})

    def test_names(self):
        self.assertEqual(sorted(refusal.__name__ for refusal in FIELDS), [
            "NoKind", "NoMessenger", "NoName", "NoRow", "NoStep", "NoText", "TooLong", "TooMany", "Twice", "Unknown"])

    def test_fields(self):
        for refusal, field in FIELDS.items():
            for thing in (0, 1, 200, -5, 10 ** 30, "", "x", "two words", "{at}"):
                error = made(refusal, thing)
                self.assertEqual(vars(error), {} if field is None else {field: thing})
                self.assertIsInstance(str(error), str)

    def test_raised_and_caught(self):
        for refusal, field in FIELDS.items():
            for caught in (refusal, WebError, ValueError):
                with self.assertRaises(caught) as held:
                    raise made(refusal, 17)
                self.assertIs(type(held.exception), refusal)
                if field is not None:
                    self.assertEqual(getattr(held.exception, field), 17)

    def test_each_keeps_its_own(self):
        for refusal, field in FIELDS.items():
            if field is None:
                continue
            one, other = refusal("one"), refusal("other")
            self.assertEqual((getattr(one, field), getattr(other, field)), ("one", "other"))
            setattr(one, field, "changed")
            self.assertEqual(getattr(other, field), "other")
            self.assertEqual(getattr(refusal("new"), field), "new")
            self.assertNotIn(field, vars(refusal))

    def test_fields_are_needed_or_refused(self):
        for refusal, field in FIELDS.items():
            if field is not None:
                with self.assertRaises(TypeError):
                    refusal()


if __name__ == "__main__":
    unittest.main()

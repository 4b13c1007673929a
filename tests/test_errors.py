"""The classes of errors.py."""

import unittest

from rightatlast import errors
from rightatlast.guesses import Guesses

FIELDS = {
    "BadText": ("place",), "BadWord": ("word",), "BadCount": ("name",), "BadLetter": ("letter",),
    "HasLetters": ("letter",), "NotPlain": (), "TooLarge": (), "TooWide": (), "TooDeep": (),
    "RowError": ("row",), "BadRow": ("row",), "TakenName": ("row",), "BadBody": ("row",), "BadDemand": ("row",),
    "UnknownName": ("name",), "Unfit": ("name",), "BadInput": ("name",), "MissingInput": ("name",),
    "BadPlace": ("place",), "BadEntry": ("entry",), "Standing": ("name", "numbers"), "Clash": ("name", "numbers"),
    "NotRight": ("name", "numbers"), "NotOpen": ("demand",), "WrongStep": ("step",), "Unfinished": ("journal",),
    "WrongBook": (), "WrongLine": ("line",), "HasFact": ("line",), "NotSimple": ("line",), "NoChoice": (),
    "HasChoices": (), "NeedsNumbers": (), "UpperChoice": ("name",), "UpperTask": ("demand",),
    "NotRelational": (), "NothingThere": (),
}
UNDER_ROW_ERROR = ("BadRow", "TakenName", "BadBody", "BadDemand")
TUPLES = {("BadPlace", "place"), ("Standing", "numbers"), ("Clash", "numbers"), ("NotRight", "numbers")}


def value_for(kind, field):
    """A value that a field may have."""
    if (kind, field) in TUPLES:
        return (3, 1)
    if field == "journal":
        return Guesses([])
    return "Low" if field in ("word", "name", "letter") else 7


class ErrorsTest(unittest.TestCase):

    def test_all_classes_are_there(self):
        found = {name for name, thing in vars(errors).items() if isinstance(thing, type)}
        self.assertEqual(found, set(FIELDS) | {"RightatlastError"})

    def test_bases(self):
        self.assertEqual(errors.RightatlastError.__bases__, (ValueError,))
        for name in FIELDS:
            base = errors.RowError if name in UNDER_ROW_ERROR else errors.RightatlastError
            self.assertEqual(getattr(errors, name).__bases__, (base,), name)

    def test_fields(self):
        for name, fields in FIELDS.items():
            values = [value_for(name, field) for field in fields]
            error = getattr(errors, name)(*values)
            self.assertEqual([getattr(error, field) for field in fields], values, name)
            self.assertIsInstance(str(error), str)

    def test_what_is_passed_is_copied(self):
        for kind, field in sorted(TUPLES):
            numbers = [3, 1]
            error = getattr(errors, kind)(*(["Low"] if kind != "BadPlace" else []), numbers)
            numbers.append(5)
            self.assertEqual(getattr(error, field), (3, 1), kind)


if __name__ == "__main__":
    unittest.main()

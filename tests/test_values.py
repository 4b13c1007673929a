"""Points 17, 19 and 20: inputs, values, truth and looks."""

import unittest

from support import PackageTest

from rightatlast.books import Book
from rightatlast.errors import BadInput, HasLetters, MissingInput, NotPlain, Unfit
from rightatlast.formulatext import read_formula
from rightatlast.guesses import Guesses
from rightatlast.termtext import read_term
from rightatlast.values import Look, look_at, truth_of, value_of
from rightatlast.worlds import World

BOOK = Book.read("fun f 1\nfun g 2\nrel R 2\nrel S 1\npick Low 1: y0 = p1\npick Two 2: y0 = p1\npick Zero 0: y0 = 1")
WORLD = World.read(BOOK, "top 2\nf 5 6 99\ng 0 1 2 10 11 12 20 21 22\nR 0 1 0 0 0 0 0 0 1\nS 1 0 0")
GUESSES = Guesses([("Low", (3,), 8), ("Low", (99,), 99999), ("Zero", (), 2), ("Two", (2, 3), 1), ("Low", (0,), 0)])
INPUTS = {"x": 3, "y": 1, "z": 99, "w": 0}
READERS = {value_of: read_term, truth_of: read_formula, look_at: read_formula}


def value(text, guesses=GUESSES):
    """The value of the term of a text."""
    return value_of(read_term(text), WORLD, INPUTS, guesses)


def truth(text, guesses=GUESSES):
    """The truth of the formula of a text."""
    return truth_of(read_formula(text), WORLD, INPUTS, guesses)


def look(text, guesses=GUESSES):
    """The look at the formula of a text."""
    return look_at(read_formula(text), WORLD, INPUTS, guesses)


class ValueTest(PackageTest):

    def test_each_kind_of_term(self):
        for text, number in [("0", 0), ("99", 99), ("x", 3), ("z + 9", 108), ("f(w)", 5), ("f(y)", 6), ("f(2)", 99),
                             ("g(1, 2)", 12), ("g(2, 1)", 21), ("g(w, y) + 4", 5), ("Zero", 2), ("Low(x)", 8),
                             ("Two(Zero, x)", 1), ("f(f(w))", 99)]:
            self.assertEqual(value(text), number, text)

    def test_values_above_the_top(self):
        self.assertEqual([value("f(x)"), value("f(z + 9)"), value("g(z, 0)"), value("g(0, z)")], [99, 99, 20, 2])

    def test_values_above_every_bound_of_a_table(self):
        self.assertEqual(value("Low(z)"), 99999)
        self.assertEqual(value("Low(z) + 9"), 100008)
        self.assertEqual(value("f(Low(z) + 9)"), 99)
        self.assertEqual(value("g(Low(z) + 1, Low(z))"), 22)
        self.assertIs(truth("S(Low(z) + 9)"), False)
        self.assertIs(truth("R(Low(z) + 9, Low(z) + 1)"), True)

    def test_keys_without_an_entry(self):
        self.assertEqual([value("Low(1)"), value("Low(Low(z) + 9)"), value("Two(x, x)"), value("Low(0)")], [0, 0, 0, 0])
        self.assertEqual(value("Zero", Guesses([])), 0)
        self.assertEqual(look("Low(Low(z) + 9) = 0").guess_keys, (("Low", (99,)), ("Low", (100008,))))


class TruthTest(PackageTest):

    def test_atoms(self):
        for text, right in [("x = 3", True), ("x = y", False), ("y <= x", True), ("x <= x", True), ("x <= y", False),
                            ("R(w, y)", True), ("R(y, w)", False), ("S(w)", True), ("S(z)", False),
                            ("R(Zero, x)", True), ("Low(x) = 8", True), ("x <= Low(1)", False)]:
            self.assertIs(truth(text), right, text)

    def test_connectives(self):
        for first, left in (("x = x", True), ("x = y", False)):
            self.assertIs(truth(f"not {first}"), not left)
            for second, right in (("S(w)", True), ("S(y)", False)):
                self.assertIs(truth(f"({first} and {second})"), left and right)
                self.assertIs(truth(f"({first} or {second})"), left or right)
                self.assertIs(truth(f"({first} -> {second})"), not left or right)
                self.assertIs(truth(f"not ({first} -> not {second})"), left and right)

    def test_names_that_nobody_needs(self):
        self.assertIs(truth_of(read_formula("S(0)"), WORLD, {}, GUESSES), True)
        self.assertEqual(value_of(read_term("x"), WORLD, {"x": 99, "abcdefgh": 0}, GUESSES), 99)


class LookTest(PackageTest):

    def test_fields(self):
        found = look("R(f(x), Low(x))")
        self.assertIsInstance(found, Look)
        self.assertIs(found.truth, True)
        self.assertEqual(found.places, (("f", (2,)), ("R", (2, 2))))
        self.assertEqual(found.guess_keys, (("Low", (3,)),))
        self.assertEqual((look("x = y").places, look("x = y").guess_keys), ((), ()))

    def test_parts_before_wholes_from_left_to_right(self):
        found = look("(R(f(0), g(f(1), 0)) and Two(Low(x), f(2)) = Low(Zero))")
        self.assertEqual(found.places, (("f", (0,)), ("f", (1,)), ("g", (2, 0)), ("R", (2, 2)), ("f", (2,))))
        self.assertEqual(found.guess_keys, (("Low", (3,)), ("Two", (8, 99)), ("Zero", ()), ("Low", (2,))))

    def test_each_once(self):
        found = look("((f(9) = f(2) or f(z) = Zero) -> Zero = Low(Zero + 1))")
        self.assertEqual(found.places, (("f", (2,)),))
        self.assertEqual(found.guess_keys, (("Zero", ()), ("Low", (3,))))

    def test_all_parts_are_read_where_the_truth_is_clear(self):
        for text, right in [("(x = x or f(0) = Low(x))", True), ("(x = y and f(0) = Low(x))", False),
                            ("(x = y -> f(0) = Low(x))", True), ("(not x = x and f(0) = Low(x))", False),
                            ("((x = x or x = y) or (x = y or f(0) = Low(x)))", True)]:
            found = look(text)
            self.assertIs(found.truth, right)
            self.assertEqual((found.places, found.guess_keys), ((("f", (0,)),), (("Low", (3,)),)))

    def test_the_world_and_the_guesses_are_left_alone(self):
        inputs = dict(INPUTS)
        look_at(read_formula("R(f(x), Low(x + 1))"), WORLD, inputs, GUESSES)
        self.assertEqual(inputs, INPUTS)
        self.assertEqual(len(GUESSES), 5)


class ErrorsTest(PackageTest):

    def check(self, kind, fields, text, inputs, calls=(truth_of, look_at)):
        for call in calls:
            self.refuses(kind, fields, call, READERS[call](text), WORLD, inputs, GUESSES)

    def test_terms(self):
        bad = {"x": 1, "y1": 0}
        self.check(HasLetters, {"letter": "y2"}, "h(y2, y1)", bad, [value_of])
        self.check(HasLetters, {"letter": "y1"}, "h(Ca(u), y1)", bad, [value_of])
        self.check(Unfit, {"name": "h"}, "f(h(Ca))", bad, [value_of])
        self.check(Unfit, {"name": "Zero"}, "f(Zero(x))", bad, [value_of])
        self.check(BadInput, {"name": "y1"}, "f(u)", bad, [value_of])
        self.check(MissingInput, {"name": "u"}, "g(x, g(u, v))", {"x": 1}, [value_of])

    def test_formulas(self):
        bad = {"x": 1, "y1": 0}
        self.check(NotPlain, {}, "(h(y2) = 1 and some y1: T(y1))", bad)
        self.check(NotPlain, {}, "every y1: S(y1)", INPUTS)
        self.check(HasLetters, {"letter": "y2"}, "(T(u) and h(y2) = y1)", bad)
        self.check(Unfit, {"name": "T"}, "(S(u) and T(h(x)))", bad)
        self.check(BadInput, {"name": "y1"}, "S(u)", bad)
        self.check(MissingInput, {"name": "v"}, "(S(x) -> (v = u or S(u)))", {"x": 1})

    def test_inputs(self):
        for name, number in (("x", 100), ("x", 10 ** 3999), ("X", 0), ("", 0), ("not", 0), ("y0", 0), ("abcdefghi", 1)):
            inputs = {"w": 99, name: number, "V": 100}
            self.check(BadInput, {"name": name}, "S(0)", inputs)
            self.check(BadInput, {"name": name}, "f(u)", inputs, [value_of])
        self.check(BadInput, {"name": "v"}, "S(0)", {"v": 100, "X": 0})


if __name__ == "__main__":
    unittest.main()

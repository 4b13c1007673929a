"""Point 54: holes and shapes."""

import unittest

from support import PackageTest, joined

from rightatlast.errors import BadWord, NotPlain, TooLarge, TooWide
from rightatlast.formulas import Formula
from rightatlast.formulatext import read_formula
from rightatlast.shapes import holes_of, shape_of
from rightatlast.terms import Term


class HolesTest(PackageTest):

    def shows(self, text, letter, holes, shape):
        """The formula of a text has these holes, shown by their texts, and this shape under a letter."""
        formula = read_formula(text)
        found = holes_of(formula, letter)
        self.assertIsInstance(found, tuple)
        self.assertTrue(all(isinstance(hole, Term) for hole in found))
        self.assertEqual([hole.text for hole in found], holes)
        self.assertEqual(shape_of(formula, letter), read_formula(shape))
        self.assertEqual(formula, read_formula(text))

    def test_sides_and_terms(self):
        self.shows("y1 = x", "y1", ["x"], "y0 = p1")
        self.shows("x <= y1", "y1", ["x"], "p1 <= y0")
        self.shows("y1 = y1", "y1", [], "y0 = y0")
        self.shows("R(y1)", "y1", [], "R(y0)")
        self.shows("R(x, y1)", "y1", ["x"], "R(p1, y0)")
        self.shows("R(x, 3)", "y1", ["x", "3"], "R(p1, p2)")
        self.shows("f(x) + 2 <= 17", "y1", ["f(x) + 2", "17"], "p1 <= p2")

    def test_the_largest_terms_without_the_letter(self):
        self.shows("f(g(x, f(z))) <= f(y1)", "y1", ["f(g(x, f(z)))"], "p1 <= f(y0)")
        self.shows("f(g(x, f(y1))) <= f(z)", "y1", ["x", "f(z)"], "f(g(p1, f(y0))) <= p2")
        self.shows("g(g(x, 1), g(y1, z + 4)) = y1 + 3", "y1", ["g(x, 1)", "z + 4"], "g(p1, g(y0, p2)) = y0 + 3")
        self.shows("Low(x, f(y1), Any, y1 + 1) = f(y1) + 9", "y1", ["x", "Any"],
                   "Low(p1, f(y0), p2, y0 + 1) = f(y0) + 9")

    def test_from_left_to_right(self):
        self.shows("((R(a, y1) and not b <= y1) or (y1 = c -> g(y1, d) = e))", "y1", ["a", "b", "c", "d", "e"],
                   "((R(p1, y0) and not p2 <= y0) or (y0 = p3 -> g(y0, p4) = p5))")

    def test_equal_holes_are_counted_separately(self):
        self.shows("(R(x, y1) and R(y1, x))", "y1", ["x", "x"], "(R(p1, y0) and R(y0, p2))")
        self.shows("g(g(x, x), y1) = g(x, x)", "y1", ["g(x, x)", "g(x, x)"], "g(p1, y0) = p2")

    def test_other_letters(self):
        self.shows("R(y2, y1)", "y1", ["y2"], "R(p1, y0)")
        self.shows("R(y2, y1)", "y2", ["y1"], "R(y0, p1)")
        self.shows("g(f(y2), y1) <= Low(y2 + 1)", "y1", ["f(y2)", "Low(y2 + 1)"], "g(p1, y0) <= p2")
        self.shows("R(y2, y1)", "y3", ["y2", "y1"], "R(p1, p2)")

    def test_letters_that_a_shape_has(self):
        self.shows("g(p2, p1) = y0", "p1", ["p2", "y0"], "g(p1, y0) = p2")
        self.shows("g(y0, p1) = p2", "p2", ["g(y0, p1)"], "p1 = y0")
        self.shows("g(p1, y0) = p2", "y0", ["p1", "p2"], "g(p1, y0) = p2")
        self.shows("(R(p2, p3) and R(p3, p1))", "p3", ["p2", "p1"], "(R(p1, y0) and R(y0, p2))")

    def test_6_and_7_holes(self):
        six = "(g(a, y1) = g(y1, b) and (g(c, y1) = g(y1, d) or g(e, y1) = g(y1, a)))"
        self.shows(six, "y1", ["a", "b", "c", "d", "e", "a"],
                   "(g(p1, y0) = g(y0, p2) and (g(p3, y0) = g(y0, p4) or g(p5, y0) = g(y0, p6)))")
        seven = read_formula(f"({six} and x <= y1)")
        self.assertEqual([hole.text for hole in holes_of(seven, "y1")], ["a", "b", "c", "d", "e", "a", "x"])
        self.refuses(TooWide, {}, shape_of, seven, "y1")
        self.refuses(TooWide, {}, shape_of, read_formula("(" * 6 + "R(x)" + " and R(x))" * 6), "y1")

    def test_atoms_do_not_matter(self):
        formula = joined([Formula.holds(name, Term.of_letter("y1")) for name in "ABCDEFGH"])
        self.assertEqual(shape_of(formula, "y1").text, formula.text.replace("y1", "y0"))


class ErrorsTest(PackageTest):

    def test_quantifiers_come_first(self):
        for call in (holes_of, shape_of):
            self.refuses(NotPlain, {}, call, read_formula("some y1: R(y1)"), "y")
            self.refuses(NotPlain, {}, call, read_formula("(R(y2) and not every y1: R(y1))"), "y2")
            for word in ("y", "", "y10", "Y1", "yy", "1y", "y1 "):
                self.refuses(BadWord, {"word": word}, call, read_formula("R(y1)"), word)

    def test_bad_words_come_before_too_many_holes(self):
        seven = read_formula("(" * 6 + "R(x)" + " and R(x))" * 6)
        self.refuses(BadWord, {"word": "x"}, shape_of, seven, "x")

    def test_a_shape_that_is_too_large(self):
        # A hole of one character becomes a parameter of two.
        formula = self.formula_of_length(994)
        self.assertEqual(len(shape_of(formula, "y1").text), 1000)
        for length in (995, 1000):
            formula = self.formula_of_length(length)
            self.assertEqual(len(holes_of(formula, "y1")), 6)
            self.refuses(TooLarge, {}, shape_of, formula, "y1")

    def formula_of_length(self, length):
        """A formula with a text of this length, with 6 holes of one character each."""
        count = -(-(length - 83) // 23)
        names = ["A" * 8] * count
        surplus = 83 + 23 * count - length
        for place in range(count):
            cut = min(7, surplus)
            names[place] = names[place][cut:]
            surplus -= cut
        atoms = [f"R({name}, y1)" for name in "abcdex"] + [f"{name}(y1, y1)" for name in names]
        formula = joined([read_formula(atom) for atom in atoms])
        self.assertEqual(len(formula.text), length)
        return formula


if __name__ == "__main__":
    unittest.main()

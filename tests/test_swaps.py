"""Point 41: swaps."""

import unittest

from support import PackageTest, nested_term

from rightatlast.formulas import Formula
from rightatlast.formulatext import read_formula
from rightatlast.swaps import is_swap
from rightatlast.terms import Term
from rightatlast.termtext import read_term


def swap(formula, other, left, right):
    """True if one formula is a swap of another one; all are texts."""
    return is_swap(read_formula(formula), read_formula(other), read_term(left), read_term(right))


class TermsTest(PackageTest):

    def agree(self, term, other, left="a", right="b"):
        """The terms agree, in both directions and in whatever order the two terms are passed."""
        for one, two in ((term, other), (other, term)):
            for first, second in ((left, right), (right, left)):
                self.assertIs(swap(f"R({one})", f"R({two})", first, second), True, (one, two, first, second))

    def differ(self, term, other, left="a", right="b"):
        """The terms do not agree."""
        for one, two in ((term, other), (other, term)):
            for first, second in ((left, right), (right, left)):
                self.assertIs(swap(f"R({one})", f"R({two})", first, second), False, (one, two, first, second))

    def test_equal_terms(self):
        self.agree("x", "x")
        self.agree("Low(a, f(b))", "Low(a, f(b))")
        self.agree("7", "7")
        self.agree("a", "a")
        self.differ("x", "y")
        self.differ("a", "x")
        self.differ("b", "x")

    def test_a_plus_c_and_b_plus_c(self):
        self.agree("a", "b")
        for number in range(1, 10):
            self.agree(f"a + {number}", f"b + {number}")
        self.differ("a + 1", "b + 2")
        self.differ("a + 1", "b")
        self.differ("a", "b + 1")

    def test_functions(self):
        self.agree("f(a)", "f(b)")
        self.agree("g(a, x)", "g(b, x)")
        self.agree("g(a, b)", "g(b, a)")
        self.agree("g(a, b)", "g(b, b)")
        self.agree("f(g(f(a), x))", "f(g(f(b), x))")
        self.agree("f(a + 3)", "f(b + 3)")
        self.differ("f(a)", "h(b)")
        self.differ("f(a)", "f(x)")
        self.differ("g(a, x)", "g(b, y)")
        self.differ("f(a)", "f(b, b)")
        self.differ("f(a, a)", "f(b)")
        self.differ("f(a)", "a")
        self.differ("f(a)", "Fa(b)")

    def test_sums(self):
        self.agree("f(a) + 3", "f(b) + 3")
        self.differ("f(a) + 3", "f(b) + 4")
        self.differ("f(a) + 3", "f(b)")
        self.differ("f(a) + 3", "f(x) + 3")

    def test_nothing_is_swapped_within_choice_terms(self):
        self.differ("Low(a)", "Low(b)")
        self.differ("f(Low(a))", "f(Low(b))")
        self.agree("Low(a)", "Low(a)")
        self.agree("Low(a)", "Low(b)", "Low(a)", "Low(b)")
        self.agree("f(Low(a) + 2)", "f(x + 2)", "Low(a)", "x")
        self.differ("Low(Low(a))", "Low(x)", "Low(a)", "x")

    def test_sums_at_their_bounds(self):
        # a is a sum already: a + 2 is x + 9, and a + 3 would be too large, so that c is at most 2.
        self.agree("x + 9", "y + 2", "x + 7", "y")
        self.agree("x + 7", "y", "x + 7", "y")
        self.differ("x + 7", "y + 1", "x + 7", "y")
        self.differ("x + 9", "y + 3", "x + 7", "y")
        self.differ("x + 1", "y + 3", "x + 7", "y")
        self.agree("99", "y + 2", "97", "y")
        self.agree("98", "y + 1", "97", "y")
        self.differ("99", "y + 3", "97", "y")
        self.agree("9", "y + 9", "0", "y")
        self.agree("x + 9", "4", "x + 8", "3")
        self.differ("x", "y + 9", "x + 1", "y")

    def test_written_numbers(self):
        self.agree("5", "x", "5", "x")
        self.agree("12", "x + 7", "5", "x")
        self.differ("15", "x + 9", "5", "x")
        self.differ("4", "x", "5", "x")
        self.agree("7", "9", "5", "7")
        self.differ("9", "7", "5", "8")
        self.differ("5", "6", "a", "b")

    def test_a_sum_that_would_be_too_large_a_term(self):
        deep = nested_term(20)
        left = Term.of_name("a")
        self.assertTrue(is_swap(Formula.holds("R", deep), Formula.holds("R", left), deep, left))
        self.assertFalse(is_swap(Formula.holds("R", left + 1), Formula.holds("R", deep), deep, left))

    def test_the_same_term_twice(self):
        self.agree("a", "a", "a", "a")
        self.differ("a", "b", "a", "a")


class FormulasTest(PackageTest):

    def test_atoms(self):
        self.assertTrue(swap("a = x", "b = x", "a", "b"))
        self.assertTrue(swap("a <= b", "b <= a", "a", "b"))
        self.assertTrue(swap("S(x, a)", "S(x, b)", "a", "b"))
        self.assertFalse(swap("a = x", "b <= x", "a", "b"))
        self.assertFalse(swap("a = x", "x = b", "a", "b"))
        self.assertFalse(swap("R(a)", "S(b)", "a", "b"))
        self.assertFalse(swap("R(a)", "R(b, b)", "a", "b"))
        self.assertFalse(swap("R(a, a)", "R(b)", "a", "b"))
        self.assertFalse(swap("R(a)", "a = b", "a", "b"))

    def test_parts(self):
        for joint in ("and", "or", "->"):
            self.assertTrue(swap(f"(R(a) {joint} not f(b) = x)", f"(R(b) {joint} not f(a) = x)", "a", "b"))
            self.assertTrue(swap(f"(R(a) {joint} R(a))", f"(R(a) {joint} R(b))", "a", "b"))
            self.assertFalse(swap(f"(R(a) {joint} R(x))", f"(R(b) {joint} R(y))", "a", "b"))
            self.assertFalse(swap(f"(R(x) {joint} R(a))", f"(R(y) {joint} R(b))", "a", "b"))
        self.assertFalse(swap("(R(a) and R(b))", "(R(a) or R(b))", "a", "b"))
        self.assertFalse(swap("(R(a) -> R(b))", "(R(a) or R(b))", "a", "b"))
        self.assertFalse(swap("not R(a)", "R(b)", "a", "b"))
        self.assertFalse(swap("R(a)", "not R(b)", "a", "b"))
        self.assertFalse(swap("not not R(a)", "not R(b)", "a", "b"))

    def test_quantified_formulas(self):
        self.assertTrue(swap("some y1: R(y1)", "some y1: R(y1)", "a", "b"))
        self.assertTrue(swap("some y1: S(y1, a)", "some y1: S(y1, a)", "a", "b"))
        self.assertFalse(swap("some y1: S(y1, a)", "some y1: S(y1, b)", "a", "b"))
        self.assertFalse(swap("some y1: R(y1)", "every y1: R(y1)", "a", "b"))
        self.assertFalse(swap("some y1: R(y1)", "some y2: R(y2)", "a", "b"))
        self.assertFalse(swap("some y1: R(y1)", "R(a)", "a", "b"))
        self.assertFalse(swap("R(a)", "some y1: R(y1)", "a", "b"))
        self.assertTrue(swap("(some y1: S(y1, a) and R(a))", "(some y1: S(y1, a) and R(b))", "a", "b"))
        self.assertFalse(swap("(some y1: S(y1, a) and R(a))", "(some y1: S(y1, b) and R(b))", "a", "b"))


if __name__ == "__main__":
    unittest.main()

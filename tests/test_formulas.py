"""Point 7: formulas."""

import unittest

from support import X, PackageTest, joined, nested_formula, term_of_size

from rightatlast.errors import BadCount, BadLetter, BadWord, TooLarge
from rightatlast.formulas import Formula
from rightatlast.formulatext import read_formula
from rightatlast.terms import Term

Y = Term.of_name("y")
Y1 = Term.of_letter("y1")
SAME = Formula.same(X, X)


def fields(formula):
    """The fields of a formula, its terms and parts by their texts."""
    terms = tuple(term.text for term in formula.terms)
    parts = tuple(part.text for part in formula.parts)
    return (formula.kind, formula.name, terms, parts, formula.text, formula.size, formula.depth, formula.letters,
            formula.names, formula.quantified)


class KindsTest(PackageTest):

    def test_atoms(self):
        self.assertEqual(fields(Formula.same(X + 1, Y1)),
                         ("same", "", ("x + 1", "y1"), (), "x + 1 = y1", 4, 1, ("y1",), ("x",), False))
        self.assertEqual(fields(Formula.most(Y, X)),
                         ("most", "", ("y", "x"), (), "y <= x", 3, 1, (), ("y", "x"), False))
        self.assertEqual(fields(Formula.holds("R", X)), ("holds", "R", ("x",), (), "R(x)", 2, 1, (), ("x",), False))
        self.assertEqual(fields(Formula.holds("ODD", Term.of_function("f", Y1), X)),
                         ("holds", "ODD", ("f(y1)", "x"), (), "ODD(f(y1), x)", 4, 1, ("y1",), ("x",), False))

    def test_operators(self):
        left = Formula.holds("R", X)
        right = Formula.holds("S", Y1)
        self.assertEqual(fields(~left), ("not", "", (), ("R(x)",), "not R(x)", 3, 2, (), ("x",), False))
        both = ("R(x)", "S(y1)")
        self.assertEqual(fields(left & right),
                         ("and", "", (), both, "(R(x) and S(y1))", 5, 2, ("y1",), ("x",), False))
        self.assertEqual(fields(left | right), ("or", "", (), both, "(R(x) or S(y1))", 5, 2, ("y1",), ("x",), False))
        self.assertEqual(fields(left >> right), ("if", "", (), both, "(R(x) -> S(y1))", 5, 2, ("y1",), ("x",), False))
        self.assertEqual((~left & right).text, "(not R(x) and S(y1))")
        self.assertEqual((~(left & right)).text, "not (R(x) and S(y1))")

    def test_quantifiers(self):
        part = Formula.holds("R", X, Y1)
        self.assertEqual(fields(Formula.some("y1", part)),
                         ("some", "y1", (), ("R(x, y1)",), "some y1: R(x, y1)", 4, 2, (), ("x",), True))
        self.assertEqual(fields(Formula.every("y1", ~part)),
                         ("every", "y1", (), ("not R(x, y1)",), "every y1: not R(x, y1)", 5, 3, (), ("x",), True))
        self.assertIs((~Formula.some("y1", part)).quantified, True)
        self.assertIs((SAME & Formula.some("y1", part)).quantified, True)

    def test_letters_stand_in_the_order_of_their_first_free_places(self):
        formula = read_formula("((some y1: R(y1, y2) and y3 = y1) -> (y2 = z and x = z))")
        self.assertEqual(formula.letters, ("y2", "y3", "y1"))
        self.assertEqual(formula.names, ("z", "x"))
        self.assertEqual(read_formula("some y1: some y2: R(y1, f(y2, y0))").letters, ("y0",))

    def test_sizes_and_depths_of_the_parts_count(self):
        formula = read_formula("(not f(x + 1) = 3 or every y1: (R(y1) and R(y1, Low)))")
        self.assertEqual((formula.size, formula.depth), (14, 4))

    def test_equality(self):
        self.assertEqual(read_formula(" x=x "), SAME)
        self.assertNotEqual(SAME, Formula.most(X, X))
        self.assertFalse(SAME == "x = x")
        self.assertFalse(SAME == X)
        self.assertTrue(SAME != None)  # noqa: E711
        self.assertEqual(str(SAME), "x = x")


class LettersTest(PackageTest):

    def test_a_letter_without_a_free_place(self):
        for make in (Formula.some, Formula.every):
            self.refuses(BadLetter, {"letter": "y1"}, make, "y1", SAME)
            self.refuses(BadLetter, {"letter": "y2"}, make, "y2", Formula.same(Y1, Y1))
            bound = Formula.every("y1", Formula.same(Y1, X))
            self.refuses(BadLetter, {"letter": "y1"}, make, "y1", bound)

    def test_a_letter_that_is_bound_within(self):
        free = Formula.same(Y1, X)
        for within in (Formula.some("y1", free), ~Formula.every("y1", free), SAME >> Formula.some("y1", ~free)):
            for make in (Formula.some, Formula.every):
                self.refuses(BadLetter, {"letter": "y1"}, make, "y1", free & within)
                self.refuses(BadLetter, {"letter": "y1"}, make, "y1", within | free)
        other = free & Formula.some("y2", Formula.same(Term.of_letter("y2"), X))
        self.assertEqual(Formula.some("y1", other).letters, ())

    def test_the_same_letter_side_by_side(self):
        text = "(some y1: y1 = x and every y1: y1 = x)"
        self.assertEqual(read_formula(text).text, text)


class LimitsTest(PackageTest):

    def test_sizes(self):
        most = ~joined([SAME] * 75)
        self.assertEqual(most.size, 300)
        self.reads_back(read_formula, most)
        self.refuses(TooLarge, {}, lambda: ~most)
        self.refuses(TooLarge, {}, lambda: most & SAME)
        self.refuses(TooLarge, {}, joined, [SAME] * 76)

    def test_sizes_of_terms(self):
        hundred = term_of_size(100)
        pair = Formula.holds("R", hundred, hundred)
        self.assertEqual(pair.size, 201)
        three = pair & Formula.same(term_of_size(95), X)
        self.assertEqual(three.size, 299)
        self.assertEqual((~three).size, 300)
        self.refuses(TooLarge, {}, lambda: ~~three)

    def test_depths(self):
        deep = nested_formula(20)
        self.assertEqual(deep.depth, 20)
        self.reads_back(read_formula, deep)
        self.refuses(TooLarge, {}, lambda: ~deep)
        self.refuses(TooLarge, {}, lambda: deep & SAME)
        self.refuses(TooLarge, {}, lambda: SAME | deep)
        self.refuses(TooLarge, {}, lambda: SAME >> deep)
        free = Formula.same(Y1, Y1)
        for _ in range(19):
            free = ~free
        for make in (Formula.some, Formula.every):
            self.refuses(TooLarge, {}, make, "y1", free)

    def test_texts(self):
        name = Term.of_name("abcdefgh")
        atoms = [Formula.same(name, name)] * 38
        longest = joined([Formula.same(Term.of_name("a"), name)] + atoms)
        self.assertEqual((len(longest.text), longest.size), (1000, 155))
        self.reads_back(read_formula, longest)
        self.refuses(TooLarge, {}, joined, [Formula.same(Term.of_name("ab"), name)] + atoms)
        self.refuses(TooLarge, {}, lambda: ~longest)
        letter = Term.of_letter("y1")
        free = joined([Formula.same(letter, Term.of_name("a"))] + [Formula.same(name, name)] * 38)
        self.assertEqual(len(free.text), 994)
        self.refuses(TooLarge, {}, Formula.some, "y1", free)


class ErrorsTest(PackageTest):

    def test_words(self):
        for word in ("", "r", "Low", "R1", "ABCDEFGHI", "y0"):
            self.refuses(BadWord, {"word": word}, Formula.holds, word, X)
        for word in ("", "y", "x", "Y1", "y10", "R"):
            self.refuses(BadWord, {"word": word}, Formula.some, word, SAME)
            self.refuses(BadWord, {"word": word}, Formula.every, word, SAME)

    def test_counts(self):
        self.refuses(BadCount, {"name": "R"}, Formula.holds, "R")
        self.refuses(BadCount, {"name": "R"}, Formula.holds, "R", X, X, X)

    def test_the_order_of_the_errors(self):
        hundred = term_of_size(100)
        self.refuses(BadWord, {"word": "r"}, Formula.holds, "r", hundred, hundred, hundred)
        self.refuses(BadWord, {"word": "r"}, Formula.holds, "r")
        self.refuses(BadCount, {"name": "R"}, Formula.holds, "R", hundred, hundred, hundred)
        deep = nested_formula(20)
        self.refuses(BadWord, {"word": "y"}, Formula.some, "y", deep)
        self.refuses(BadLetter, {"letter": "y1"}, Formula.some, "y1", deep)
        self.refuses(BadLetter, {"letter": "y1"}, Formula.every, "y1", deep)


if __name__ == "__main__":
    unittest.main()

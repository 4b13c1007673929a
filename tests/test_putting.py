"""Point 9: putting terms for words."""

import unittest

from support import X, PackageTest, nested_term, term_of_size

from rightatlast.errors import BadWord, HasLetters, TooLarge
from rightatlast.formulas import Formula
from rightatlast.formulatext import read_formula
from rightatlast.putting import put_choice, put_letters, put_names
from rightatlast.terms import Term
from rightatlast.termtext import read_term


def table(**texts):
    """A dict from words to the terms of these texts."""
    return {word: read_term(text) for word, text in texts.items()}


class NamesTest(PackageTest):

    def test_several_at_once(self):
        self.assertEqual(put_names(read_term("f(x, y)"), table(x="y", y="x")).text, "f(y, x)")
        self.assertEqual(put_names(read_term("Low(x, y, z)"), table(x="f(x)", y="x")).text, "Low(f(x), x, z)")
        self.assertEqual(put_names(read_formula("(R(x, f(y)) -> not x = Low(x + 1))"), table(x="Cb", y="3")).text,
                         "(R(Cb, f(3)) -> not Cb = Low(Cb + 1))")

    def test_terms_and_formulas(self):
        self.assertIsInstance(put_names(X, table(x="3")), Term)
        self.assertIsInstance(put_names(read_formula("x = y"), table(x="3")), Formula)
        self.assertEqual(put_names(X, {}), X)
        self.assertEqual(put_names(read_term("3"), table(x="4")).text, "3")
        self.assertEqual(put_names(read_formula("x = y"), {}).text, "x = y")

    def test_functions_are_no_names(self):
        self.assertEqual(put_names(read_term("f(f)"), table(f="g(f)")).text, "f(g(f))")

    def test_all_kinds_of_formulas(self):
        text = "((x = x or x <= x) -> (not R(x) and (R(x, x) and some y1: every y2: R(y1 + 1, f(y2, x)))))"
        self.assertEqual(put_names(read_formula(text), table(x="Low")).text, text.replace("x", "Low"))

    def test_sums_fold(self):
        self.assertEqual(put_names(read_term("x + 3"), table(x="y + 4")).text, "y + 7")
        self.assertEqual(put_names(read_term("x + 3"), table(x="90")).text, "93")
        self.assertEqual(put_names(read_formula("f(x + 9) = x + 1"), table(x="0")).text, "f(9) = 1")
        self.refuses(TooLarge, {}, put_names, read_term("x + 3"), table(x="y + 7"))
        self.refuses(TooLarge, {}, put_names, read_formula("R(x + 3)"), table(x="97"))
        self.assertEqual(put_names(read_term("x + 3"), table(x="96")).text, "99")

    def test_too_large(self):
        self.assertEqual(put_names(read_term("f(x)"), {"x": nested_term(19)}), nested_term(20))
        self.refuses(TooLarge, {}, put_names, read_term("f(x)"), {"x": nested_term(20)})
        self.refuses(TooLarge, {}, put_names, read_term("f(x, x)"), {"x": term_of_size(50)})
        self.assertEqual(put_names(read_term("f(x, 3)"), {"x": term_of_size(98)}).size, 100)
        self.assertEqual(put_names(read_formula("R(x, x)"), {"x": term_of_size(100)}).size, 201)
        self.refuses(TooLarge, {}, put_names, read_formula("(R(x, x) or x = 3)"), {"x": term_of_size(100)})

    def test_within_quantifiers(self):
        formula = put_names(read_formula("some y1: R(y1, x)"), table(x="f(Low)"))
        self.assertEqual(formula.text, "some y1: R(y1, f(Low))")

    def test_errors(self):
        for word in ("", "X", "y1", "not", "Low", "abcdefghi"):
            self.refuses(BadWord, {"word": word}, put_names, X, {"x": X, word: X})
        self.refuses(HasLetters, {"letter": "y1"}, put_names, X, table(z="f(y1, y0)"))
        self.refuses(HasLetters, {"letter": "y2"}, put_names, X, table(x="3", y="f(x, y2)", z="y1"))

    def test_the_order_of_the_errors(self):
        large = {"x": nested_term(20)}
        self.refuses(BadWord, {"word": "X"}, put_names, read_term("f(x)"), {**large, "y": read_term("y1"), "X": X})
        self.refuses(BadWord, {"word": "X"}, put_names, X, {"X": X, "Y": X})
        self.refuses(HasLetters, {"letter": "y1"}, put_names, read_term("f(x)"), {**large, "y": read_term("y1")})

    def test_the_dict_is_left_alone(self):
        terms = table(x="y", y="x")
        result = put_names(read_formula("some y1: R(y1, x)"), terms)
        self.assertEqual(terms, table(x="y", y="x"))
        terms["x"] = read_term("9")
        terms.clear()
        self.assertEqual(result.text, "some y1: R(y1, y)")


class LettersTest(PackageTest):

    def test_several_at_once(self):
        self.assertEqual(put_letters(read_term("f(p1, p2)"), table(p1="p2", p2="p1")).text, "f(p2, p1)")
        self.assertEqual(put_letters(read_formula("(R(p1) and y0 = p1 + 1)"), table(p1="x + 1", y0="p1")).text,
                         "(R(x + 1) and p1 = x + 2)")

    def test_free_places_against_bound_ones(self):
        formula = read_formula("(R(y1, y2) -> some y1: (R(y1, y2) and every y2: R(y1, y2)))")
        self.assertEqual(put_letters(formula, table(y1="x", y2="Low(x)")).text,
                         "(R(x, Low(x)) -> some y1: (R(y1, Low(x)) and every y2: R(y1, y2)))")
        side = read_formula("(some y1: R(y1) and R(y1))")
        self.assertEqual(put_letters(side, table(y1="3")).text, "(some y1: R(y1) and R(3))")

    def test_terms_with_letters(self):
        self.assertEqual(put_letters(read_formula("R(y1)"), table(y1="f(y1)")).text, "R(f(y1))")
        self.assertEqual(put_letters(read_term("f(y1)"), table(y1="y2", y3="y4")).text, "f(y2)")
        self.refuses(HasLetters, {"letter": "y2"}, put_letters, read_formula("some y1: R(y1)"), table(y3="f(y2)"))
        self.refuses(HasLetters, {"letter": "y2"}, put_letters, read_formula("not (x = y or some y1: R(y1, y3))"),
                     table(y3="x", y4="f(y2, y5)"))

    def test_sums_fold(self):
        self.assertEqual(put_letters(read_formula("R(p1 + 3, y0 + 1)"), table(p1="x + 6", y0="8")).text,
                         "R(x + 9, 9)")
        self.refuses(TooLarge, {}, put_letters, read_formula("R(p1 + 3)"), table(p1="x + 7"))

    def test_errors_in_their_order(self):
        formula = read_formula("some y1: R(f(y2), y1)")
        large = nested_term(20)
        for word in ("", "x", "Y1", "y10", "p", "R", "not"):
            self.refuses(BadWord, {"word": word}, put_letters, formula,
                         {"y2": large, "y3": read_term("y4"), word: X})
        self.refuses(HasLetters, {"letter": "y4"}, put_letters, formula, {"y2": large, "y3": read_term("y4")})
        self.refuses(TooLarge, {}, put_letters, formula, {"y2": large})
        self.assertEqual(put_letters(formula, {"y1": large}), formula)

    def test_the_dict_is_left_alone(self):
        terms = table(y1="x", y2="z")
        result = put_letters(read_formula("(R(y2) or some y1: R(y1))"), terms)
        self.assertEqual(terms, table(y1="x", y2="z"))
        terms["y2"] = X
        self.assertEqual(result.text, "(R(z) or some y1: R(y1))")


class ChoiceTest(PackageTest):

    def test_all_places(self):
        self.assertEqual(put_choice(read_term("f(Low, g(Low + 1))"), read_term("Low"), read_term("x")).text,
                         "f(x, g(x + 1))")
        self.assertEqual(put_choice(read_formula("(R(Low(x)) -> some y1: R(y1, f(Low(x))))"), read_term("Low(x)"),
                                    read_term("3")).text, "(R(3) -> some y1: R(y1, f(3)))")
        self.assertEqual(put_choice(read_term("Low(x)"), read_term("Low(x)"), read_term("y")).text, "y")

    def test_only_equal_terms(self):
        self.assertEqual(put_choice(read_term("f(Low(x), Low(y))"), read_term("Low(x)"), read_term("3")).text,
                         "f(3, Low(y))")
        self.assertEqual(put_choice(read_term("Low(Low)"), read_term("Low"), read_term("3")).text, "Low(3)")
        self.assertEqual(put_choice(read_term("f(x)"), read_term("Low"), read_term("3")).text, "f(x)")

    def test_a_new_term_that_contains_the_old_one(self):
        self.assertEqual(put_choice(read_term("f(Low, Low)"), read_term("Low"), read_term("g(Low)")).text,
                         "f(g(Low), g(Low))")

    def test_what_becomes_equal_only_by_putting(self):
        self.assertEqual(put_choice(read_term("Low(Low(x))"), read_term("Low(x)"), read_term("x")).text, "Low(x)")
        self.assertEqual(put_choice(read_formula("R(Low(Low(0)), Low(0))"), read_term("Low(0)"), read_term("0")).text,
                         "R(Low(0), 0)")

    def test_sums_fold(self):
        self.assertEqual(put_choice(read_term("Low + 3"), read_term("Low"), read_term("x + 4")).text, "x + 7")
        self.refuses(TooLarge, {}, put_choice, read_term("Low + 3"), read_term("Low"), read_term("97"))

    def test_errors_in_their_order(self):
        large = nested_term(20)
        low = read_term("f(Low)")
        for text in ("x", "3", "Low + 1", "f(Low)", "y1", "f(y1)"):
            self.refuses(BadWord, {"word": text}, put_choice, low, read_term(text), read_term("y2"))
        self.refuses(HasLetters, {"letter": "y3"}, put_choice, low, read_term("Low(x, y3, y1)"), read_term("y2"))
        self.refuses(HasLetters, {"letter": "y2"}, put_choice, low, read_term("Low"), read_term("f(y2, y1)"))
        self.refuses(TooLarge, {}, put_choice, low, read_term("Low"), large)
        self.assertEqual(put_choice(low, read_term("Ca"), large), low)


if __name__ == "__main__":
    unittest.main()

"""Points 5 and 6: terms."""

import unittest

from support import X, PackageTest, nested_term, term_of_size

from rightatlast.errors import BadCount, BadWord, TooLarge
from rightatlast.formulas import Formula
from rightatlast.terms import Term
from rightatlast.termtext import read_term

Y0 = Term.of_letter("y0")


def fields(term):
    """The fields of a term, its parts by their texts."""
    parts = tuple(part.text for part in term.parts)
    return (term.kind, term.name, term.number, parts, term.text, term.size, term.depth, term.letters, term.names)


class KindsTest(PackageTest):

    def test_numbers(self):
        self.assertEqual(fields(Term.of_number(0)), ("number", "", 0, (), "0", 1, 1, (), ()))
        self.assertEqual(fields(Term.of_number(99)), ("number", "", 99, (), "99", 1, 1, (), ()))
        self.refuses(TooLarge, {}, Term.of_number, 100)
        self.refuses(TooLarge, {}, Term.of_number, 10 ** 3999)

    def test_names_and_letters(self):
        self.assertEqual(fields(X), ("name", "x", 0, (), "x", 1, 1, (), ("x",)))
        self.assertEqual(fields(Y0), ("letter", "y0", 0, (), "y0", 1, 1, ("y0",), ()))

    def test_sums(self):
        self.assertEqual(fields(X + 9), ("sum", "", 9, ("x",), "x + 9", 2, 2, (), ("x",)))
        self.assertEqual(fields(Y0 + 1), ("sum", "", 1, ("y0",), "y0 + 1", 2, 2, ("y0",), ()))

    def test_functions(self):
        one = Term.of_function("f", X + 1)
        self.assertEqual(fields(one), ("function", "f", 0, ("x + 1",), "f(x + 1)", 3, 3, (), ("x",)))
        two = Term.of_function("both", one, Y0)
        self.assertEqual(fields(two), ("function", "both", 0, ("f(x + 1)", "y0"), "both(f(x + 1), y0)", 5, 4,
                                       ("y0",), ("x",)))

    def test_choices(self):
        self.assertEqual(fields(Term.of_choice("Low")), ("choice", "Low", 0, (), "Low", 1, 1, (), ()))
        six = Term.of_choice("Low", X, Y0, X, Term.of_number(7), Term.of_letter("a1"), Term.of_name("b"))
        self.assertEqual(fields(six), ("choice", "Low", 0, ("x", "y0", "x", "7", "a1", "b"),
                                       "Low(x, y0, x, 7, a1, b)", 7, 2, ("y0", "a1"), ("x", "b")))

    def test_names_and_letters_stand_in_the_order_of_the_text_once(self):
        term = read_term("Ca(z, y1, f(x, y0), z, x, Cb(y1, y2, w))")
        self.assertEqual(term.names, ("z", "x", "w"))
        self.assertEqual(term.letters, ("y1", "y0", "y2"))
        self.assertIs(type(term.names), tuple)
        self.assertIs(type(term.parts), tuple)

    def test_equality(self):
        self.assertEqual(read_term(" f( x+1 )"), Term.of_function("f", X + 1))
        self.assertNotEqual(X, Term.of_name("y"))
        self.assertFalse(X == "x")
        self.assertTrue(X != "x")
        self.assertFalse(X == Formula.same(X, X))
        self.assertFalse(X == None)  # noqa: E711


class SumsTest(PackageTest):

    def test_a_written_number_grows(self):
        self.assertEqual(fields(Term.of_number(90) + 9), ("number", "", 99, (), "99", 1, 1, (), ()))
        self.assertEqual(Term.of_number(0) + 3, Term.of_number(3))
        self.refuses(TooLarge, {}, lambda: Term.of_number(91) + 9)
        self.refuses(TooLarge, {}, lambda: Term.of_number(99) + 1)

    def test_a_sum_folds(self):
        self.assertEqual(fields(X + 4 + 5), ("sum", "", 9, ("x",), "x + 9", 2, 2, (), ("x",)))
        self.assertEqual(fields(X + 1 + 1 + 1), ("sum", "", 3, ("x",), "x + 3", 2, 2, (), ("x",)))
        self.refuses(TooLarge, {}, lambda: X + 5 + 5)
        self.refuses(TooLarge, {}, lambda: X + 9 + 1)

    def test_adding_nothing(self):
        for term in (X, Y0, Term.of_number(99), X + 9, Term.of_choice("Low")):
            self.assertEqual(term + 0, term)

    def test_more_than_nine(self):
        for term in (X, Y0, Term.of_number(0), X + 1, Term.of_choice("Low")):
            self.refuses(TooLarge, {}, lambda: term + 10)
            self.refuses(TooLarge, {}, lambda: term + 10 ** 3999)
        self.assertEqual((X + 9).text, "x + 9")

    def test_terms_are_not_changed(self):
        term = X + 1
        term + 2
        term += 3
        self.assertEqual((X.text, term.text), ("x", "x + 4"))


class LimitsTest(PackageTest):

    def test_sizes(self):
        hundred = term_of_size(100)
        self.assertEqual(hundred.size, 100)
        self.refuses(TooLarge, {}, term_of_size, 101)
        self.refuses(TooLarge, {}, lambda: hundred + 1)
        self.refuses(TooLarge, {}, Term.of_function, "f", hundred)
        summed = term_of_size(99) + 1
        self.assertEqual(summed.size, 100)
        self.assertEqual((summed + 1).size, 100)
        self.assertEqual(hundred + 0, hundred)
        self.reads_back(read_term, hundred)
        self.reads_back(read_term, summed)

    def test_depths(self):
        deep = nested_term(20)
        self.assertEqual(deep.depth, 20)
        self.refuses(TooLarge, {}, Term.of_function, "f", deep)
        self.refuses(TooLarge, {}, Term.of_function, "f", X, deep)
        self.refuses(TooLarge, {}, Term.of_choice, "Low", X, deep)
        self.refuses(TooLarge, {}, lambda: deep + 1)
        self.assertEqual((nested_term(19) + 9).depth, 20)
        self.reads_back(read_term, deep)

    def test_the_longest_text(self):
        # No term of size 100 has a longer text, so that the limit of 1,000 shows only in what is read.
        long = Term.of_name("abcdefgh")
        while long.size < 100:
            long = Term.of_choice("Abcdefgh", long, *[Term.of_name("abcdefgh")] * min(5, 99 - long.size))
        self.assertEqual(len(long.text), 998)
        self.reads_back(read_term, long)
        self.assertEqual(read_term(long.text + "  "), long)
        self.refuses(TooLarge, {}, read_term, long.text + "   ")


class ErrorsTest(PackageTest):

    def test_words(self):
        for word in ("", "not", "by", "X", "Low", "y0", "abcdefghi", "x y"):
            self.refuses(BadWord, {"word": word}, Term.of_name, word)
            self.refuses(BadWord, {"word": word}, Term.of_function, word, X)
        for word in ("", "y", "y10", "Y0", "x", "0"):
            self.refuses(BadWord, {"word": word}, Term.of_letter, word)
        for word in ("", "L", "low", "LOW", "y0", "Abcdefghi"):
            self.refuses(BadWord, {"word": word}, Term.of_choice, word)

    def test_counts(self):
        self.refuses(BadCount, {"name": "f"}, Term.of_function, "f")
        self.refuses(BadCount, {"name": "f"}, Term.of_function, "f", X, X, X)
        self.refuses(BadCount, {"name": "Low"}, Term.of_choice, "Low", *[X] * 7)

    def test_the_order_of_the_errors(self):
        deep = nested_term(20)
        self.refuses(BadWord, {"word": "F"}, Term.of_function, "F", deep, deep, deep)
        self.refuses(BadWord, {"word": "F"}, Term.of_function, "F", deep)
        self.refuses(BadWord, {"word": "low"}, Term.of_choice, "low", *[deep] * 7)
        self.refuses(BadCount, {"name": "f"}, Term.of_function, "f", deep, deep, deep)
        self.refuses(BadCount, {"name": "Low"}, Term.of_choice, "Low", *[deep] * 7)
        self.refuses(TooLarge, {}, Term.of_choice, "Low", *[deep] * 6)


if __name__ == "__main__":
    unittest.main()

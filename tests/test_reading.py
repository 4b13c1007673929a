"""Point 8: reading terms and formulas."""

import functools
import random
import unittest

from support import PackageTest

from rightatlast.errors import BadLetter, BadText, TooLarge
from rightatlast.formulatext import read_formula
from rightatlast.terms import Term
from rightatlast.termtext import read_term
from rightatlast.words import is_choice, is_letter, is_name, is_relation, tokens

TERMS = ["0", "9", "99", "x", "abcdefgh", "y0", "x + 1", "y0 + 9", "f(x)", "f(x + 1, 3) + 2", "Low", "Low + 4",
         "Low(x)", "Low(x, y1, 3, f(x), Low, Low(x + 1))", "f(f(f(Ca(Cb(0)))))"]
FORMULAS = ["x = y", "f(x) + 1 <= Low", "R(x)", "R(x, y0 + 1)", "not R(x)", "not not x = y", "(x = y and y = x)",
            "(x = y or R(x))", "(x = y -> not x = y)", "some y1: R(y1)", "every y1: not (R(y1) and y1 <= x)",
            "some y1: every y2: R(y1, y2)", "((x = y and y = x) -> (x = y or some y1: y1 = y1 + 1))",
            "(some y1: R(y1) -> every y1: R(y1))", "not some y1: f(y1) = 0"]


class ReadingTest(PackageTest):

    def bad_text(self, read, cases):
        for text, place in cases:
            with self.subTest(text=text):
                self.refuses(BadText, {"place": place}, read, text)


class TextsTest(ReadingTest):

    def test_texts_are_read_back(self):
        for text in TERMS:
            self.assertEqual(read_term(text).text, text)
        for text in FORMULAS:
            self.assertEqual(read_formula(text).text, text)

    def test_spaces_where_they_may_stand(self):
        for read, texts in ((read_term, TERMS), (read_formula, FORMULAS)):
            for text in texts:
                found = [token for _, token in tokens(text)]
                self.assertEqual(read("   ".join(["", *found, ""])).text, text)

    def test_without_spaces(self):
        self.assertEqual(read_term("Low(x+1,f(y0,3)+2)").text, "Low(x + 1, f(y0, 3) + 2)")
        self.assertEqual(read_formula("(x+1<=3->not(R(x)or x=Low))").text, "(x + 1 <= 3 -> not (R(x) or x = Low))")
        self.assertEqual(read_formula("some y1:R(y1)").text, "some y1: R(y1)")
        self.assertEqual(read_formula("f (x)= g ( x , y )").text, "f(x) = g(x, y)")

    def test_spaces_where_they_may_not_stand(self):
        self.bad_text(read_term, [("L ow", 0), ("Lo w", 3), ("1 0", 2), ("y 0", 2), ("9 9", 2), ("f o(x)", 2)])
        self.bad_text(read_formula, [("x < = y", 2), ("(x = y - > y = x)", 7), ("R R(x)", 2), ("no t x = y", 3),
                                     ("x = y\n", 5), ("\tx = y", 0), ("n ot x = y", 2)])

    def test_folding(self):
        self.assertEqual(read_term("5 + 3"), Term.of_number(8))
        self.assertEqual(read_term("5 + 3").kind, "number")
        self.assertEqual(read_formula("90 + 9 = x").text, "99 = x")

    def test_the_example(self):
        formula = read_formula("every y1: (f( y1 ) <= 3 -> not R(x,y1 + 2))")
        self.assertEqual(str(formula), "every y1: (f(y1) <= 3 -> not R(x, y1 + 2))")
        self.assertEqual((formula.kind, formula.name, formula.letters, formula.names, formula.size, formula.depth),
                         ("every", "y1", (), ("x",), 11, 4))

    def test_functions_and_names(self):
        self.assertEqual(read_term("f").kind, "name")
        self.assertEqual(read_term("f (f)").kind, "function")
        self.assertEqual(read_term("f(f)").names, ("f",))
        self.assertEqual(read_term("Low").kind, "choice")
        self.assertEqual(read_term("R" + "o(x)").parts[0].text, "x")


class PlacesTest(ReadingTest):

    def test_terms_that_end_too_early(self):
        self.bad_text(read_term, [("", 0), ("  ", 2), ("x +", 3), ("x +  ", 5), ("f(", 2), ("f(x", 3), ("f(x,", 4),
                                  ("f(x, y", 6), ("Low(", 4), ("Low(x,  ", 8), ("f(x +", 5)])

    def test_formulas_that_end_too_early(self):
        self.bad_text(read_formula, [("", 0), ("x", 1), ("x =", 3), ("x + 1 ", 6), ("R", 1), ("R(", 2), ("R(x", 3),
                                     ("R(x,", 4), ("R(x, y", 6), ("not", 3), ("not ", 4), ("(", 1), ("(x = y", 6),
                                     ("(x = y and", 10), ("(x = y and y = x", 16), ("some", 4), ("some y1", 7),
                                     ("some y1:", 8), ("every y1: (R(y1)", 16)])

    def test_terms_that_are_spoilt(self):
        self.bad_text(read_term, [("x + 0", 4), ("x + 1 + 2", 6), ("x + 10", 4), ("x + 99", 4), ("x + y", 4),
                                  ("x + (1", 4), ("1 + 0", 4), ("x y", 2), ("x)", 1), ("(x)", 0), ("3(x)", 1),
                                  ("y0(x)", 2), ("f()", 2), ("Low()", 4), ("f(x,)", 4), ("f(,x)", 2), ("f(x y)", 4),
                                  ("f(x, y, z)", 6), ("f(x)(y)", 4), ("Low(x)(y)", 6), ("R", 0), ("R(x)", 0),
                                  ("f(R(x))", 2), ("not", 0), ("by", 0), ("f(not)", 2), ("x = y", 2), ("+ 1", 0),
                                  ("f(x) + 1 + 1", 9), ("not(x)", 0), (": x", 0), ("x + some", 4)])

    def test_the_sixth_comma_of_a_choice(self):
        self.assertEqual(len(read_term("Low(1, 2, 3, 4, 5, 6)").parts), 6)
        self.bad_text(read_term, [("Low(1,2,3,4,5,6,7)", 15), ("Low(1,2,3,4,5,6,", 15), ("f(1,2,", 5)])
        self.bad_text(read_formula, [("R(1,2,3)", 5), ("R(Low(1,2,3,4,5,6,7))", 17)])

    def test_formulas_that_are_spoilt(self):
        self.bad_text(read_formula, [
            ("x y", 2), ("x = y = z", 6), ("x <= y <= z", 7), ("x -> y", 2), ("x = R(x)", 4), ("R(x) = x", 5),
            ("R x", 2), ("R = x", 2), ("R()", 2), ("R(x,)", 4), ("R(x))", 4), ("(x = y)", 6), ("(x)", 2),
            ("(x + 1)", 6), ("x = y and y = x", 6), ("(x = y and y = x or x = y)", 17), ("(x = y not y = x)", 7),
            ("(x = y, y = x)", 6), ("not", 3), ("not )", 4), ("not x", 5), ("some R: R(x)", 5), ("some x: x = x", 5),
            ("some y1 R(y1)", 8), ("some (y1): R(y1)", 5), ("some y1, y2: R(y1)", 7), ("some y1: y1", 11),
            ("every 1: x = x", 6), ("every y1: )", 10), ("some some y1: x = y1", 5), ("by x", 0), ("x by y", 2),
            ("and x = y", 0), ("x = not y", 4), ("(x = y) and y = x", 6), ("() = x", 1), (": x = y", 0),
            ("x = y + 0", 8), ("x = y + 12", 8), ("x = y )", 6), ("x = (y)", 4), ("x = y x", 6),
            ("((x = y and y = x)", 18), ("y1: x = y1", 2), ("f(x)", 4), ("Low R", 4), ("<= x", 0)])

    def test_long_texts(self):
        self.assertEqual(read_term(" " * 999 + "x").text, "x")
        self.refuses(TooLarge, {}, read_term, " " * 1000 + "x")
        self.assertEqual(read_formula("x = y" + " " * 995).text, "x = y")
        self.refuses(TooLarge, {}, read_formula, "x = y" + " " * 996)
        self.refuses(BadText, {"place": 1000}, read_term, " " * 1000)
        self.refuses(TooLarge, {}, read_term, "-" * 1001)


class CountsTest(ReadingTest):

    def test_words_not_some_and_every(self):
        self.bad_text(read_formula, [("not " * 100, 400), ("not " * 98 + "some every", 397)])
        self.refuses(TooLarge, {}, read_formula, "not " * 101)
        self.refuses(TooLarge, {}, read_formula, "not " * 99 + "some every")
        self.refuses(TooLarge, {}, read_formula, "not " * 100 + ") some (")
        self.refuses(TooLarge, {}, read_term, "not " * 101)
        self.bad_text(read_term, [("not " * 100, 0)])
        self.refuses(TooLarge, {}, read_formula, "not " * 100 + "x = x")

    def test_a_formula_with_a_hundred_such_words(self):
        atoms = ["not " * 12 + "x = x"] * 8
        text = f"not not not not {tree(atoms)}"
        self.assertEqual(read_formula(text).text, text)
        self.refuses(TooLarge, {}, read_formula, "not " + text)

    def test_open_parentheses(self):
        self.bad_text(read_formula, [("(" * 40, 40), ("(" * 40 + ")", 40), ("(" * 40 + ")(", 40),
                                     (")" * 50 + "(" * 40, 0), ("(" * 40 + ")" * 41 + "(" * 40, 40)])
        self.refuses(TooLarge, {}, read_formula, "(" * 41)
        self.refuses(TooLarge, {}, read_formula, "(" * 40 + ")((")
        self.refuses(TooLarge, {}, read_formula, ")" * 50 + "(" * 41)
        self.refuses(TooLarge, {}, read_formula, "(" * 40 + ")" * 41 + "(" * 41)
        self.refuses(TooLarge, {}, read_term, "f(" * 41)
        self.bad_text(read_term, [("f(" * 40, 80)])
        self.refuses(TooLarge, {}, read_term, "f(" * 40 + "x" + ")" * 40)


class OrderTest(ReadingTest):

    def test_length_first(self):
        self.refuses(TooLarge, {}, read_formula, "- " + "x" * 999)

    def test_tokens_before_counts(self):
        self.bad_text(read_formula, [("(" * 41 + "-", 41), ("not " * 101 + "abcdefghi", 404)])

    def test_counts_before_grammar(self):
        self.refuses(TooLarge, {}, read_formula, ") " + "(" * 41)
        self.refuses(TooLarge, {}, read_term, "x y " + "(" * 41)

    def test_grammar_before_building(self):
        self.bad_text(read_term, [("99 + 1 x", 7), ("f(99 + 1", 8)])
        self.bad_text(read_formula, [("99 + 1 = x )", 11), ("(some y1: x = x and y = )", 24)])

    def test_building_from_left_to_right_and_from_the_inside_to_the_outside(self):
        self.refuses(TooLarge, {}, read_term, "99 + 1")
        self.refuses(TooLarge, {}, read_formula, "x = 91 + 9")
        self.refuses(BadLetter, {"letter": "y1"}, read_formula, "some y1: x = x")
        self.refuses(BadLetter, {"letter": "y1"}, read_formula, "(some y1: x = x and every y2: 99 + 1 = y2)")
        self.refuses(TooLarge, {}, read_formula, "(99 + 1 = x and some y1: x = x)")
        self.refuses(TooLarge, {}, read_formula, "some y1: 99 + 1 = x")
        self.refuses(BadLetter, {"letter": "y2"}, read_formula, "some y1: every y2: y1 = x")
        self.refuses(BadLetter, {"letter": "y3"}, read_formula, "(every y3: x = x or some y1: x = x)")
        self.refuses(BadLetter, {"letter": "y1"}, read_formula, "some y1: (y1 = x and some y1: y1 = x)")
        self.refuses(BadLetter, {"letter": "y1"}, read_formula, "not " * 25 + "some y1: x = x")
        self.refuses(TooLarge, {}, read_formula, "some y1: " + "not " * 25 + "x = x")


def tree(texts):
    """Formulas, joined as evenly as possible."""
    if len(texts) == 1:
        return texts[0]
    half = len(texts) // 2
    return f"({tree(texts[:half])} or {tree(texts[half:])})"


def listed(most):
    """The ways to write 1 to `most` terms in parentheses."""
    return [["("] + ["term", ","] * count + ["term", ")"] for count in range(most)]


GRAMMAR = {
    "term": [["base"], ["base", "+", "ADDEND"]],
    "base": [["ADDEND"], ["OTHER"], ["NAME"], ["LETTER"], ["CHOICE"]]
    + [["NAME", *inner] for inner in listed(2)] + [["CHOICE", *inner] for inner in listed(6)],
    "formula": [["term", "=", "term"], ["term", "<=", "term"], ["not", "formula"], ["some", "LETTER", ":", "formula"],
                ["every", "LETTER", ":", "formula"]] + [["RELATION", *inner] for inner in listed(2)]
    + [["(", "formula", joint, "formula", ")"] for joint in ("and", "or", "->")],
}


def symbol_of(token):
    """The symbol of the grammar for a token."""
    for check, symbol in ((is_name, "NAME"), (is_letter, "LETTER"), (is_relation, "RELATION"), (is_choice, "CHOICE")):
        if check(token):
            return symbol
    if token.isdigit():
        return "ADDEND" if 1 <= int(token) <= 9 else "OTHER"
    return token


@functools.lru_cache(maxsize=None)
def grown_from(stack):
    """All stacks that begin with a token, or are empty, and come from this one."""
    if not stack or stack[0] not in GRAMMAR:
        return frozenset([stack])
    return grown([tuple(way) + stack[1:] for way in GRAMMAR[stack[0]]])


def grown(stacks):
    """All stacks that begin with a token, or are empty, and come from these."""
    return frozenset(found for stack in stacks for found in grown_from(stack))


def first_bad_place(start, text):
    """The place of the first token that continues no text of the grammar, or None: by trying all ways at once."""
    stacks = grown([(start,)])
    for place, token in tokens(text):
        symbol = symbol_of(token)
        stacks = grown([stack[1:] for stack in stacks if stack and stack[0] == symbol])
        if not stacks:
            return place
    return None if () in stacks else len(text)


class AllWaysTest(ReadingTest):
    """The parser against a slow one that follows the grammar word for word."""

    WORDS = ["(", ")", ",", "+", "=", "<=", "->", ":", "not", "and", "or", "some", "every", "by", "x", "f", "y1", "R",
             "Low", "0", "3", "12"]

    def agrees(self, start, read, text):
        place = first_bad_place(start, text)
        try:
            read(text)
            found = None
        except BadText as error:
            found = error.place
        except (TooLarge, BadLetter):
            found = None
        self.assertEqual(found, place, text)

    def test_spoilt_texts(self):
        chance = random.Random(8)
        for start, read, texts in (("term", read_term, TERMS), ("formula", read_formula, FORMULAS)):
            for text in texts:
                found = [token for _, token in tokens(text)]
                for _ in range(40):
                    changed = list(found)
                    place = chance.randrange(len(changed))
                    changed[place:place + chance.randrange(3)] = chance.choices(self.WORDS, k=chance.randrange(3))
                    self.agrees(start, read, " ".join(changed))

    def test_short_texts(self):
        for first in self.WORDS:
            for second in self.WORDS:
                for third in self.WORDS:
                    text = f"{first} {second}  {third}"
                    self.agrees("term", read_term, text)
                    self.agrees("formula", read_formula, text)


if __name__ == "__main__":
    unittest.main()

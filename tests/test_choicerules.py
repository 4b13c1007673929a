"""Points 14, 21 and 38: the formulas of demand, least and zero lines."""

import unittest

from support import PackageTest, term_text_of_length

from rightatlast.books import Book
from rightatlast.choicerules import demand_formula, least_formula, zero_formula
from rightatlast.errors import BadWord, HasLetters, TooLarge, Unfit, UpperChoice
from rightatlast.termtext import read_term

BOOK = Book.read("fun f 1\nfun g 2\nfun longfunc 2\nrel R 2\npick Low 1: f(y0) <= p1\npick Any 0: R(y0, y0)\n"
                 "pick Two 2: (R(p1, y0) and not p2 = y0 + 1)\npick Up 1: Low(y0) = p1\n"
                 "pick Four 1: (g(g(p1, p1), g(p1, p1)) = y0 and y0 = y0)\npick Eq 6: y0 = p1")


def formula(rule, head, *by):
    """The text of the formula of a line; head and by-term are texts."""
    return rule(BOOK, read_term(head), *[read_term(text) for text in by]).text


class FormulasTest(PackageTest):

    def test_demand_lines(self):
        self.assertEqual(formula(demand_formula, "Low(x)", "f(3)"), "(f(f(3)) <= x -> f(Low(x)) <= x)")
        self.assertEqual(formula(demand_formula, "Any", "0"), "(R(0, 0) -> R(Any, Any))")
        self.assertEqual(formula(demand_formula, "Two(x, f(y))", "z + 2"),
                         "((R(x, z + 2) and not f(y) = z + 3) -> (R(x, Two(x, f(y))) and not f(y) = Two(x, f(y)) + 1))")
        self.assertEqual(formula(demand_formula, "Up(x)", "Low(x)"), "(Low(Low(x)) = x -> Low(Up(x)) = x)")
        self.assertEqual(formula(demand_formula, "Low(x)", "Low(x)"), "(f(Low(x)) <= x -> f(Low(x)) <= x)")

    def test_least_lines(self):
        self.assertEqual(formula(least_formula, "Low(x)", "f(3)"), "(f(f(3)) <= x -> Low(x) <= f(3))")
        self.assertEqual(formula(least_formula, "Any", "0"), "(R(0, 0) -> Any <= 0)")
        self.assertEqual(formula(least_formula, "Two(x, f(y))", "z + 2"),
                         "((R(x, z + 2) and not f(y) = z + 3) -> Two(x, f(y)) <= z + 2)")
        self.assertEqual(formula(least_formula, "Low(Up(x))", "Up(x)"), "(f(Up(x)) <= Up(x) -> Low(Up(x)) <= Up(x))")

    def test_zero_lines(self):
        self.assertEqual(formula(zero_formula, "Low(x)"), "(Low(x) = 0 or f(Low(x)) <= x)")
        self.assertEqual(formula(zero_formula, "Any"), "(Any = 0 or R(Any, Any))")
        self.assertEqual(formula(zero_formula, "Up(3)"), "(Up(3) = 0 or Low(Up(3)) = 3)")


class ErrorsTest(PackageTest):

    def both(self, kind, fields, head, by):
        """The demand and the least formula are refused."""
        for rule in (demand_formula, least_formula):
            self.refuses(kind, fields, rule, BOOK, read_term(head), read_term(by))

    def test_the_errors_of_a_demand_in_their_order(self):
        self.both(BadWord, {"word": "f(y1)"}, "f(y1)", "h(y2)")
        self.both(BadWord, {"word": "Low(x) + 1"}, "Low(x) + 1", "3")
        self.both(BadWord, {"word": "7"}, "7", "3")
        self.both(HasLetters, {"letter": "y1"}, "Neu(y1, y2)", "h(y3)")
        self.both(HasLetters, {"letter": "y3"}, "Neu(x)", "h(y3)")
        self.both(Unfit, {"name": "Neu"}, "Neu(x)", "h(x)")
        self.both(Unfit, {"name": "Low"}, "Low(x, y)", "h(x)")
        self.both(Unfit, {"name": "h"}, "Low(x)", "h(x)")

    def test_errors_of_zero_lines(self):
        for kind, fields, head in ((BadWord, {"word": "f(y1)"}, "f(y1)"), (HasLetters, {"letter": "y1"}, "Neu(y1)"),
                                   (Unfit, {"name": "Neu"}, "Neu(x)"), (Unfit, {"name": "Any"}, "Any(x)")):
            self.refuses(kind, fields, zero_formula, BOOK, read_term(head))

    def test_an_upper_choice_in_a_least_line(self):
        self.refuses(UpperChoice, {"name": "Up"}, least_formula, BOOK, read_term("Up(x)"), read_term("3"))
        self.refuses(Unfit, {"name": "h"}, least_formula, BOOK, read_term("Up(x)"), read_term("h(x)"))
        self.refuses(Unfit, {"name": "Up"}, least_formula, BOOK, read_term("Up"), read_term("3"))
        self.assertEqual(formula(demand_formula, "Up(x)", "3"), "(Low(3) = x -> Low(Up(x)) = x)")
        self.assertEqual(formula(zero_formula, "Up(x)"), "(Up(x) = 0 or Low(Up(x)) = x)")

    def test_a_demand_that_is_too_large(self):
        # The body of Four at a term of size 31 has terms of size 7 + 4 * 31.
        wide = "x"
        for _ in range(4):
            wide = f"g({wide}, {wide})"
        self.both(TooLarge, {}, f"Four({wide})", "1")
        self.refuses(TooLarge, {}, zero_formula, BOOK, read_term(f"Four({wide})"))
        upper = Book.read("fun g 2\npick Any 0: y0 = 1\npick Up 1: (g(g(p1, p1), g(p1, p1)) = Any and y0 = y0)")
        self.refuses(TooLarge, {}, least_formula, upper, read_term(f"Up({wide})"), read_term("1"))

    def test_a_text_of_1000_and_of_1001_characters(self):
        head = f"Eq(1, 2, 3, 4, 5, {term_text_of_length(400)})"
        for length in (1000, 1001):
            by = term_text_of_length(length - len(head) - 4)
            if length == 1000:
                # The test and the goal leave the long part out.
                self.assertEqual(formula(demand_formula, head, "7"), f"(7 = 1 -> {head} = 1)")
            else:
                self.both(TooLarge, {}, head, by)
        head = f"Eq(1, 2, 3, 4, 5, {term_text_of_length(600)})"
        self.refuses(TooLarge, {}, zero_formula, BOOK, read_term(head))
        head = f"Eq(1, 2, 3, 4, 5, {term_text_of_length(470)})"
        self.assertEqual(formula(zero_formula, head), f"({head} = 0 or {head} = 1)")

    def test_a_formula_that_is_too_large_itself(self):
        # The demand is small enough; the least formula has the head besides the test.
        book = Book.read("fun longfunc 2\nrel R 1\npick Eq 1: R(y0)")
        head = read_term(f"Eq({term_text_of_length(480)})")
        by = read_term(term_text_of_length(480))
        self.assertEqual(len(demand_formula(book, head, by).text), len(head.text) + len(by.text) + 12)
        self.refuses(TooLarge, {}, least_formula, book, head, by)
        head = read_term(f"Eq({term_text_of_length(490)})")
        self.assertEqual(len(demand_formula(book, head, head).text), 1000)
        self.refuses(TooLarge, {}, zero_formula, book, head)
        head = read_term(f"Eq({term_text_of_length(489)})")
        self.assertEqual(len(zero_formula(book, head).text), 999)
        book = Book.read("fun longfunc 2\nrel R 2\npick Eq 1: R(y0, p1)")
        head = read_term(f"Eq({term_text_of_length(240)})")
        self.assertEqual(len(demand_formula(book, head, head).text), 2 * (2 * 240 + 4 + 5) + 6)
        self.assertEqual(len(zero_formula(book, head).text), 244 + 4 + 489 + 6)
        head = read_term(f"Eq({term_text_of_length(245)})")
        self.refuses(TooLarge, {}, demand_formula, book, head, head)
        self.refuses(TooLarge, {}, zero_formula, book, head)


if __name__ == "__main__":
    unittest.main()

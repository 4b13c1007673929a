"""Point 21: demands."""

import unittest

from support import X, PackageTest, nested_term

from rightatlast.books import Book, Choice, body_at
from rightatlast.demands import Demand
from rightatlast.errors import BadText, BadWord, HasLetters, TooLarge, Unfit
from rightatlast.termtext import read_term

BOOK = Book.read("fun f 1\nfun g 2\nrel R 2\npick Low 1: R(p1, f(y0))\npick Up 2: R(Low(y0), p2)\npick Zero 0: y0 = 1")
OTHER = Book.read("pick Ca 0: y0 = 1")


def demand(head, by, book=BOOK):
    """The demand of the terms of two texts."""
    return Demand(book, read_term(head), read_term(by))


class FieldsTest(PackageTest):

    def test_fields(self):
        found = demand("Low( x + 1 )", "f(3)")
        self.assertIsInstance(found.choice, Choice)
        self.assertEqual((found.choice.name, found.choice.count, found.choice.upper), ("Low", 1, False))
        self.assertEqual((found.head.text, found.by.text), ("Low(x + 1)", "f(3)"))
        self.assertEqual(found.test.text, "R(x + 1, f(f(3)))")
        self.assertEqual(found.goal.text, "R(x + 1, f(Low(x + 1)))")
        self.assertEqual(found.formula.text, "(R(x + 1, f(f(3))) -> R(x + 1, f(Low(x + 1))))")
        self.assertEqual(found.text, "Low(x + 1) by f(3)")
        self.assertEqual(str(found), found.text)

    def test_other_counts(self):
        self.assertEqual(demand("Zero", "Low(Zero)").formula.text, "(Low(Zero) = 1 -> Zero = 1)")
        upper = demand("Up(x, Zero)", "Up(0, 0) + 3")
        self.assertEqual(upper.formula.text, "(R(Low(Up(0, 0) + 3), Zero) -> R(Low(Up(x, Zero)), Zero))")
        self.assertIs(upper.choice.upper, True)

    def test_equality(self):
        self.assertEqual(demand("Low(x)", "3"), Demand.read(BOOK, " Low(x)by 3 "))
        self.assertEqual(demand("Ca", "3", OTHER), demand("Ca", "3", Book.read("pick Ca 0: y0 = 7")))
        self.assertNotEqual(demand("Low(x)", "3"), demand("Low(x)", "4"))
        self.assertFalse(demand("Low(x)", "3") == "Low(x) by 3")


class ErrorsTest(PackageTest):

    def test_heads_that_are_no_choice_terms(self):
        for text in ("x", "3", "f(Low(x))", "Low(x) + 1", "y1", "h(y1)"):
            self.refuses(BadWord, {"word": text}, demand, text, "h(y2)")

    def test_letters(self):
        self.refuses(HasLetters, {"letter": "y1"}, demand, "Ca(y1, y0)", "h(y2)")
        self.refuses(HasLetters, {"letter": "y2"}, demand, "Ca(x)", "h(y2, y0)")

    def test_words_that_do_not_fit(self):
        self.refuses(Unfit, {"name": "Ca"}, demand, "Ca(h(x))", "k(x)")
        self.refuses(Unfit, {"name": "Low"}, demand, "Low(x, h(x))", "k(x)")
        self.refuses(Unfit, {"name": "h"}, demand, "Low(h(x))", "k(x)")
        self.refuses(Unfit, {"name": "k"}, demand, "Low(x)", "f(k(x, f(x, x)))")
        self.refuses(Unfit, {"name": "Up"}, Demand, BOOK, read_term("Low(x)"), read_term("Up(x)"))
        self.refuses(Unfit, {"name": "f"}, Demand, BOOK, read_term("Low(x)"),
                     read_term("f(x, " + nested_term(19).text + ")"))

    def test_a_test_that_is_too_large(self):
        self.assertEqual(demand("Low(x)", nested_term(19).text).by.depth, 19)
        self.refuses(TooLarge, {}, Demand, BOOK, read_term("Low(x)"), nested_term(20))
        self.refuses(TooLarge, {}, Demand, Book.read("pick Ca 0: y0 + 9 = 9"), read_term("Ca"), read_term("91"))

    def test_a_goal_that_is_too_large(self):
        deep = read_term("Low(" + nested_term(19).text + ")")
        self.refuses(TooLarge, {}, Demand, BOOK, deep, X)
        self.assertEqual(Demand(BOOK, read_term("Low(" + nested_term(18).text + ")"), X).goal.terms[1].depth, 20)

    def test_a_formula_that_is_too_large(self):
        book = Book.read("fun f 1\nrel R 2\npick Ca 6: y0 = 1\npick Cb 0: (R(y0, y0) or y0 = 1)")
        text = "x"
        for _ in range(15):
            text = f"Ca({text}, x, x, x, x, x)"
        most = read_term(text.replace(", x", ", f(x)", 5))
        found = Demand(book, read_term("Cb"), most)
        self.assertEqual((most.size, found.formula.size), (96, 300))
        more = read_term(text.replace(", x", ", f(x)", 6))
        test = body_at(book.choice_of("Cb"), [], more)
        self.assertTrue(test.size < 300 and len(test.text) + len(found.goal.text) < 980)
        self.refuses(TooLarge, {}, Demand, book, read_term("Cb"), more)

    def test_a_formula_that_is_too_deep(self):
        for depth in (19, 20):
            book = Book.read("pick Ca 0: " + "not " * (depth - 1) + "y0 = 1")
            if depth == 19:
                self.assertEqual(demand("Ca", "1", book).formula.depth, 20)
            else:
                self.refuses(TooLarge, {}, demand, "Ca", "1", book)

    def test_texts(self):
        book = Book.read("pick Abcdefgh 6: 1 = 1")
        head = by = "abcdefgh"
        for _ in range(10):
            head = f"Abcdefgh({head}{', abcdefgh' * 5})"
        for _ in range(6):
            by = f"Abcdefgh({by}{', abcdefgh' * 5})"
        self.assertEqual(len(f"{head} by {by}"), 980)
        longest = by.replace("abcdefgh,", "abcdefgh + 1,", 5)
        self.assertEqual(len(demand(head, longest, book).text), 1000)
        longer = by.replace("abcdefgh,", "abcdefgh + 1,", 6).replace(", abcdefgh)", ", abcde)", 1)
        self.assertEqual(len(f"{head} by {longer}"), 1001)
        self.refuses(TooLarge, {}, demand, head, longer, book)

    def test_the_order_of_the_errors(self):
        deep = nested_term(20)
        self.refuses(BadWord, {"word": deep.text}, Demand, BOOK, deep, read_term("y1"))
        self.refuses(HasLetters, {"letter": "y1"}, Demand, BOOK, read_term("Ca(h(x))"), read_term("y1"))
        self.refuses(Unfit, {"name": "Ca"}, Demand, BOOK, read_term("Ca"), deep)
        self.refuses(TooLarge, {}, Demand, BOOK, read_term("Low(x)"), deep)


class ReadingTest(PackageTest):

    def test_spaces(self):
        for text in ("Low(x) by f(3)", "  Low( x )  by  f(3) ", "Low(x)by f(3)", "Low (x)by f ( 3 )"):
            self.assertEqual(Demand.read(BOOK, text).text, "Low(x) by f(3)")
        self.assertEqual(Demand.read(BOOK, "Zero by 5 + 3").text, "Zero by 8")
        self.reads_back(lambda text: Demand.read(BOOK, text), demand("Up(x + 1, Zero)", "Low(Low(y)) + 9"))

    def test_a_first_term_that_is_no_choice_term(self):
        for text, place in [("x by 3", 2), ("f(Low(x)) by 3", 10), ("Low(x) + 1 by 3", 11), ("3 by 3", 2),
                            ("5 + 3 by 3", 6), ("y1 by 3", 3), (" x by by", 3)]:
            self.refuses(BadText, {"place": place}, Demand.read, BOOK, text)

    def test_spoilt_texts(self):
        for text, place in [("", 0), ("Low(x)", 6), ("Low(x) ", 7), ("Low(x) by", 9), ("Low(x) by ", 10), ("x", 1),
                            ("Low(x) + 1", 10), ("Low(x) 3", 7), ("Low(x) by 3 by 3", 12), ("by 3", 0),
                            ("Low(x) by 3 x", 12), ("Low(x) by by", 10), ("Low(x) = 3", 7), ("Low(x by 3)", 6),
                            ("Low(x) by x = 3", 12), ("R(x) by 3", 0), ("Low(x) by R(x)", 10), ("x y by 3", 2),
                            ("Low(x) + 0 by 3", 9), ("Low(x) by -", 10), ("Low(x)bya 3", 6), ("Lowby 3", 6)]:
            with self.subTest(text=text):
                self.refuses(BadText, {"place": place}, Demand.read, BOOK, text)

    def test_the_order_of_the_errors(self):
        self.refuses(TooLarge, {}, Demand.read, BOOK, "x by 3" + " " * 995)
        self.assertEqual(Demand.read(BOOK, "Zero by 3" + " " * 991).text, "Zero by 3")
        self.refuses(TooLarge, {}, Demand.read, BOOK, "x by " + "f(" * 41)
        self.refuses(TooLarge, {}, Demand.read, BOOK, "x by " + "not " * 101)
        self.refuses(BadText, {"place": 2}, Demand.read, BOOK, "x by 99 + 1")
        self.refuses(BadText, {"place": 15}, Demand.read, BOOK, "Ca(y1) by 99 + 1x")
        self.refuses(TooLarge, {}, Demand.read, BOOK, "Ca(y1) by 99 + 1")
        self.refuses(HasLetters, {"letter": "y1"}, Demand.read, BOOK, "Ca(y1) by h(y2)")
        self.refuses(Unfit, {"name": "Ca"}, Demand.read, BOOK, "Ca(h(x)) by k(x)")


if __name__ == "__main__":
    unittest.main()

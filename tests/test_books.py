"""Points 11 to 14: books."""

import unittest

from support import X, PackageTest, joined, term_of_size

from rightatlast.books import Book, body_at
from rightatlast.errors import (BadBody, BadCount, BadRow, BadWord, TakenName, TooLarge, Unfit, UnknownName)
from rightatlast.formulas import Formula
from rightatlast.formulatext import read_formula
from rightatlast.terms import Term
from rightatlast.termtext import read_term

TEXT = "fun f 1\nfun both 2\nrel R 2\nrel S 1\npick Low 1: f(y0) <= p1\npick Up 2: R(Low(y0), p2)\npick Zero 0: S(y0)"
BOOK = Book.read(TEXT)
NAMES = [first + second for first in "abcdef" for second in "abcdefghij"]


def functions(count):
    """The text of a book with this number of rows."""
    return "\n".join(f"fun {name} 1" for name in NAMES[:count])


class ReadingTest(PackageTest):

    def test_fields(self):
        self.assertEqual(BOOK.functions, (("f", 1), ("both", 2)))
        self.assertEqual(BOOK.relations, (("R", 2), ("S", 1)))
        self.assertEqual([(c.name, c.count, c.body.text, c.upper) for c in BOOK.choices],
                         [("Low", 1, "f(y0) <= p1", False), ("Up", 2, "R(Low(y0), p2)", True),
                          ("Zero", 0, "S(y0)", False)])
        self.assertIs(type(BOOK.choices), tuple)
        self.assertEqual(BOOK.text, TEXT)
        self.reads_back(Book.read, BOOK)

    def test_the_empty_book(self):
        book = Book.read("")
        self.assertEqual((book.functions, book.relations, book.choices, book.text), ((), (), (), ""))

    def test_rows_in_any_order(self):
        text = "rel S 1\npick Zero 0: S(y0)\nfun f 2\npick Six 6: f(p1, p6) = y0\nrel R 1"
        book = Book.read(text)
        self.assertEqual((book.functions, book.relations), ((("f", 2),), (("S", 1), ("R", 1))))
        self.assertEqual(book.text, text)

    def test_spaces_within_a_body(self):
        book = Book.read("fun f 1\npick Low 1:   f( y0 )<=p1 +1  ")
        self.assertEqual(book.text, "fun f 1\npick Low 1: f(y0) <= p1 + 1")
        self.assertEqual(book, Book.read("fun f 1\npick Low 1: f(y0) <= p1 + 1"))

    def test_equality(self):
        self.assertNotEqual(BOOK, Book.read("fun f 1"))
        self.assertFalse(BOOK == TEXT)
        self.assertEqual(str(BOOK), TEXT)

    def test_rows_of_no_form(self):
        for row in ["", " ", "fun", "fun f", "fun f ", "fun f 0", "fun f 3", "fun f 11", "fun f 01", "fun f x",
                    "fun f 1 ", " fun f 1", "fun  f 1", "fun f  1", "fun\tf 1", "fun F 1", "fun Low 1", "fun y0 1",
                    "fun not 1", "fun abcdefghi 1", "fun f 1 1", "fun f +1", "fun f 1: x = x", "Fun f 1",
                    "rel R", "rel R 0", "rel R 3", "rel r 1", "rel Rr 1", "rel R 1 ", "rel  R 1", "rel R 1: y0 = y0",
                    "rel ABCDEFGHI 1", "pick Low 1", "pick Low 1:", "pick Low 1: ", "pick Low 1:y0 = p1",
                    "pick  Low 1: y0 = p1", "pick Low  1: y0 = p1", "pick Low 1 : y0 = p1", " pick Low 1: y0 = p1",
                    "pick Low 7: y0 = p1", "pick Low 01: y0 = p1", "pick Low 10: y0 = p1", "pick Low: y0 = p1",
                    "pick Low x: y0 = p1", "pick low 1: y0 = p1", "pick LOW 1: y0 = p1", "pick L 1: y0 = p1",
                    "pick Abcdefghi 1: y0 = p1", "pick Low 1: y0", "pick Low 1: y0 = p1 y0", "pick Low 1: (y0 = p1)",
                    "pick Low 1: 99 + 1 = y0", "pick Low 1: some y1: y0 = p1", "pick Low 1: " + "(" * 41,
                    "pick Low 1: y0 = p1" + " " * 1000, "pick Low 1: y0 = p1\t", "choose Low 1: y0 = p1",
                    "pick", "pick ", "pick Low 1;  y0 = p1", "pick Low 1 1: y0 = p1"]:
            with self.subTest(row=row):
                self.refuses(BadRow, {"row": 2}, Book.read, "fun g 1\n" + row + "\nrel Q 1")
        self.refuses(BadRow, {"row": 2}, Book.read, "fun f 1\n")
        self.refuses(BadRow, {"row": 1}, Book.read, "\n")

    def test_many_rows(self):
        self.assertEqual(len(Book.read(functions(40)).functions), 40)
        self.refuses(TooLarge, {}, Book.read, functions(41))
        self.refuses(TooLarge, {}, Book.read, "\n" * 40)
        self.refuses(BadRow, {"row": 1}, Book.read, "\n" * 39)
        self.refuses(TooLarge, {}, Book.read, functions(40) + "\n")

    def test_taken_names(self):
        self.refuses(TakenName, {"row": 3}, Book.read, "fun f 1\nrel F 1\nfun f 1")
        self.refuses(TakenName, {"row": 2}, Book.read, "fun f 1\nfun f 2")
        self.refuses(TakenName, {"row": 2}, Book.read, "rel R 1\nrel R 2\nrel R 3")
        self.refuses(TakenName, {"row": 2}, Book.read, "pick Low 0: y0 = 1\npick Low 1: y0 = 2")
        self.assertEqual(len(Book.read("fun low 1\nrel LOW 1\npick Low 0: y0 = 0").choices), 1)

    def test_the_order_of_the_errors_of_a_row(self):
        self.refuses(BadRow, {"row": 2}, Book.read, "pick Low 0: y0 = 1\npick Low 1: y0 =")
        self.refuses(BadRow, {"row": 2}, Book.read, "fun f 1\nfun f 3")
        self.refuses(TakenName, {"row": 2}, Book.read, "pick Low 0: y0 = 1\npick Low 1: x = 2")

    def test_the_first_row_counts(self):
        rows = ["fun f 1", "fun f 1", "fun", "pick Low 0: x = 1"]
        self.refuses(TakenName, {"row": 2}, Book.read, "\n".join(rows))
        self.refuses(BadRow, {"row": 2}, Book.read, "\n".join([rows[0], rows[2], rows[1], rows[3]]))
        self.refuses(BadBody, {"row": 2}, Book.read, "\n".join([rows[0], rows[3], rows[1], rows[2]]))


class BodiesTest(PackageTest):

    def bad(self, row, before="fun f 1\nrel R 2\npick Low 1: f(y0) <= p1\npick Up 1: Low(y0) = p1"):
        with self.subTest(row=row):
            rows = len(before.split("\n"))
            self.refuses(BadBody, {"row": rows + 1}, Book.read, before + "\n" + row)

    def good(self, row, before="fun f 1\nrel R 2\npick Low 1: f(y0) <= p1\npick Up 1: Low(y0) = p1"):
        self.assertEqual(Book.read(before + "\n" + row).text, before + "\n" + row)

    def test_words(self):
        for body in ["x = y0", "R(x, y0)", "some y1: R(y0, y1)", "(y0 = p1 and every y1: y1 = y0)", "y1 = y0",
                     "p2 = y0", "p0 = y0", "p7 = y0", "y0 = x + 1", "g(y0) = 1", "f(y0, p1) = 1", "S(y0)", "R(y0)",
                     "Ca = y0", "Low = y0", "Low(y0, p1) = 1", "Up(y0) = 1", "(y0 = p1 -> R(y0, f(Up(p1))))",
                     "Neu(y0) = 1"]:
            self.bad(f"pick Neu 1: {body}")
        self.bad("pick Neu 0: p1 = y0")
        for body in ["y0 = p1", "1 = 1", "y0 = y0 + 1", "R(f(y0), Low(p1))", "Low(Low(y0)) = 1", "not p1 = 3"]:
            self.good(f"pick Neu 1: {body}")
        self.good("pick Neu 6: (p1 = p2 and (p3 = p4 and (p5 = p6 and y0 = 1)))")

    def test_words_of_later_rows(self):
        self.refuses(BadBody, {"row": 1}, Book.read, "pick Low 0: f(y0) = 1\nfun f 1")
        self.refuses(BadBody, {"row": 1}, Book.read, "pick Low 0: R(y0)\nrel R 1")
        self.refuses(BadBody, {"row": 1}, Book.read, "pick Up 0: Low = y0\npick Low 0: y0 = 1")

    def test_sizes(self):
        atoms = "((y0 = 1 and y0 = 1) and (y0 = 1 and y0 = 1))"
        two = f"({atoms} or {atoms})"
        self.assertEqual(read_formula(two).size, 31)
        self.good(f"pick Neu 1: {'not ' * 9}{two}")
        self.bad(f"pick Neu 1: {'not ' * 10}{two}")
        self.assertEqual(read_formula("not " * 9 + two).size, 40)

    def test_atoms(self):
        atoms = [f"y0 = {number}" for number in range(6)]
        five = "(y0 = 0 or (y0 = 1 or (y0 = 2 or (y0 = 3 or (y0 = 4 or y0 = 0)))))"
        self.good(f"pick Neu 0: {five}")
        self.bad(f"pick Neu 0: {joined([read_formula(atom) for atom in atoms]).text}")

    def test_upper_and_ground(self):
        book = Book.read("pick Low 0: y0 = 1\npick Up 0: (y0 = 1 or y0 = Low)\npick Flat 0: 1 = 1")
        self.assertEqual([choice.upper for choice in book.choices], [False, True, False])


class MethodsTest(PackageTest):

    def test_choice_of(self):
        self.assertEqual((BOOK.choice_of("Up").name, BOOK.choice_of("Up").count), ("Up", 2))
        for name in ("f", "R", "Ca", "", "low"):
            self.refuses(UnknownName, {"name": name}, BOOK.choice_of, name)

    def test_fits(self):
        for text in ["x", "y0", "f(both(x, 3)) + 1", "Zero", "Up(Low(y1), Zero)"]:
            self.assertIs(BOOK.fits(read_term(text)), True)
        for text in ["x = 1", "(R(f(x), y1) -> some y2: S(y2))"]:
            self.assertIs(BOOK.fits(read_formula(text)), True)

    def test_the_first_word_that_does_not_fit(self):
        for text, name in [("g(h(x))", "g"), ("f(g(x))", "g"), ("f(x, h(y))", "f"), ("both(g(x), h(x))", "g"),
                           ("both(f(x), h(x))", "h"), ("Low", "Low"), ("Low(g(x), x)", "Low"), ("Low(Ca)", "Ca"),
                           ("g(Ca) + 1", "g"), ("Zero(x)", "Zero"), ("f(Ca + 1)", "Ca")]:
            self.refuses(Unfit, {"name": name}, BOOK.fits, read_term(text))
        for text, name in [("T(g(x))", "T"), ("R(x)", "R"), ("R(g(x), h(x))", "g"), ("g(x) = h(x)", "g"),
                           ("f(x) <= h(x)", "h"), ("(S(x) and (T(x) or Q(x)))", "T"), ("not Q(g(x))", "Q"),
                           ("(some y1: g(y1) = 1 -> T(x))", "g"), ("S(x, g(x))", "S")]:
            self.refuses(Unfit, {"name": name}, BOOK.fits, read_formula(text))

    def test_extended(self):
        book = BOOK.extended("Neu", 1, read_formula("(f(y0)=p1 or Low(y0) = 1)"))
        self.assertEqual(book.text, TEXT + "\npick Neu 1: (f(y0) = p1 or Low(y0) = 1)")
        self.assertIs(book.choice_of("Neu").upper, True)
        self.assertEqual(BOOK.text, TEXT)
        self.assertEqual(Book.read("").extended("Six", 6, read_formula("p6 = y0")).text, "pick Six 6: p6 = y0")
        self.assertEqual(book, Book.read(book.text))

    def test_extended_with_errors(self):
        good = read_formula("y0 = 1")
        for name in ("", "low", "L", "LOW", "y0", "Abcdefghi"):
            self.refuses(BadWord, {"word": name}, BOOK.extended, name, 1, good)
        self.refuses(TooLarge, {}, BOOK.extended, "Neu", 7, good)
        self.refuses(TakenName, {"row": 8}, BOOK.extended, "Low", 1, good)
        for text in ("x = 1", "p2 = y0", "g(y0) = 1", "some y1: y1 = y0", "Up(y0, y0) = 1", "Neu = 1"):
            self.refuses(BadBody, {"row": 8}, BOOK.extended, "Neu", 1, read_formula(text))
        full = Book.read(functions(40))
        self.refuses(TooLarge, {}, full.extended, "Neu", 0, good)
        self.assertEqual(len(Book.read(functions(39)).extended("Neu", 0, good).choices), 1)

    def test_extended_with_several_errors(self):
        bad = read_formula("x = 1")
        full = Book.read(functions(39) + "\npick Low 0: y0 = 1")
        self.refuses(BadWord, {"word": "low"}, full.extended, "low", 7, bad)
        self.refuses(TooLarge, {}, BOOK.extended, "Low", 7, bad)
        self.refuses(TooLarge, {}, full.extended, "Low", 0, bad)
        self.refuses(TakenName, {"row": 8}, BOOK.extended, "Low", 1, bad)


class BodyAtTest(PackageTest):

    def test_terms_are_put(self):
        low = BOOK.choice_of("Low")
        self.assertEqual(body_at(low, [read_term("x + 1")], read_term("Low(x)")).text, "f(Low(x)) <= x + 1")
        up = BOOK.choice_of("Up")
        self.assertEqual(body_at(up, [X, read_term("p1")], read_term("p2")).text, "R(Low(p2), p1)")
        self.assertEqual(body_at(BOOK.choice_of("Zero"), [], Term.of_number(3)).text, "S(3)")

    def test_more_than_one_parameter(self):
        book = Book.read("pick Six 6: (p1 = p6 or (p2 = p3 or p4 = y0))")
        terms = [read_term(text) for text in ("a", "b", "c", "d", "e", "f")]
        self.assertEqual(body_at(book.choices[0], terms, read_term("3")).text, "(a = f or (b = c or d = 3))")
        self.assertEqual([term.text for term in terms], ["a", "b", "c", "d", "e", "f"])

    def test_sums_fold(self):
        book = Book.read("pick Low 1: y0 + 3 = p1 + 2")
        self.assertEqual(body_at(book.choices[0], [read_term("90")], read_term("x + 6")).text, "x + 9 = 92")
        self.refuses(TooLarge, {}, body_at, book.choices[0], [read_term("90")], read_term("x + 7"))
        self.refuses(TooLarge, {}, body_at, book.choices[0], [read_term("98")], read_term("x"))

    def test_a_wrong_count(self):
        low = BOOK.choice_of("Low")
        large = term_of_size(100)
        self.refuses(BadCount, {"name": "Low"}, body_at, low, [], X)
        self.refuses(BadCount, {"name": "Low"}, body_at, low, [X, X], X)
        self.refuses(BadCount, {"name": "Low"}, body_at, low, [large, large], large)

    def test_a_result_that_is_too_large(self):
        low = BOOK.choice_of("Low")
        self.refuses(TooLarge, {}, body_at, low, [X], term_of_size(100))
        self.assertEqual(body_at(low, [term_of_size(100)], X).size, 103)
        book = Book.read("pick Low 0: (y0 = y0 or y0 = 1)")
        self.refuses(TooLarge, {}, body_at, book.choices[0], [], term_of_size(100))

    def test_the_list_is_left_alone(self):
        parts = [X]
        formula = body_at(BOOK.choice_of("Low"), parts, read_term("3"))
        self.assertEqual(len(parts), 1)
        parts[0] = read_term("9")
        self.assertEqual(formula, Formula.most(read_term("f(3)"), X))


if __name__ == "__main__":
    unittest.main()

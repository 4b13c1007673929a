"""Point 50: lines of spoken derivations."""

import unittest

from support import PackageTest, term_text_of_length

from rightatlast.books import Book
from rightatlast.errors import BadRow
from rightatlast.formulatext import read_formula
from rightatlast.spokenlines import SpokenLine, read_spoken_line
from rightatlast.termtext import read_term

BOOK = Book.read("fun f 1\nfun g 2\nfun longfunc 2\nrel R 1\nrel S 2")
WITH_CHOICES = Book.read(BOOK.text + "\npick Low 1: f(y0) <= p1")


def line(text, row=1):
    """The line of a row."""
    return read_spoken_line(BOOK, text, row)


class ReadingTest(PackageTest):

    def has(self, text, reason, numbers=(), term=None, name="", depth=0, formula="R(x)"):
        """The line of a row has these fields, and the row is its text."""
        found = line(text)
        self.assertIsInstance(found, SpokenLine)
        self.assertEqual((found.reason, found.numbers, found.name, found.depth), (reason, numbers, name, depth))
        self.assertEqual(found.formula, read_formula(formula) if formula is not None else None)
        self.assertEqual(found.term, read_term(term) if term is not None else None)
        self.assertEqual((found.text, str(found)), (text, text))
        self.reads_back(line, found)

    def test_reasons_of_derivations(self):
        self.has("R(x) ; assume", "assume")
        self.has("R(x) ; order", "order")
        self.has("R(x) ; if 3", "if", (3,))
        self.has("R(x) ; among 1200", "among", (1200,))
        self.has("R(x) ; cases 2 7", "cases", (2, 7))
        self.has("R(x) ; swap 7 2", "swap", (7, 2))
        self.has("R(x) ; follows", "follows")
        self.has("R(x) ; follows 5", "follows", (5,))
        self.has("R(x) ; follows 1 2 3 4 5 6 7 8 9 10 1 1", "follows", (1, 2, 3, 4, 5, 6, 7, 8, 9, 10, 1, 1))

    def test_reasons_with_a_term(self):
        self.has("R(x) ; some 3 by f(x)", "some", (3,), "f(x)")
        self.has("R(x) ; each 1200 at 7", "each", (1200,), "7")
        self.has("R(x) ; least 3 by g(x, y) + 2", "least", (3,), "g(x, y) + 2")

    def test_take_every_induct_and_fresh(self):
        self.has("R(x) ; take 3 as w", "take", (3,), name="w")
        self.has("R(x) ; take 1 as abcdefgh", "take", (1,), name="abcdefgh")
        self.has("R(x) ; every 12", "every", (12,))
        self.has("R(x) ; induct 2 3 to n", "induct", (2, 3), "n")
        self.has("R(x) ; induct 3 2 to 0", "induct", (3, 2), "0")
        self.has("R(x) ; induct 1200 1 to 20", "induct", (1200, 1), "20")
        self.has("fresh x", "fresh", name="x", formula=None)
        self.has("fresh fresh", "fresh", name="fresh", formula=None)

    def test_depths(self):
        for depth in range(21):
            self.has("| " * depth + "fresh abcdefgh", "fresh", name="abcdefgh", depth=depth, formula=None)
            self.has("| " * depth + "R(x) ; take 1 as x", "take", (1,), name="x", depth=depth)
        for row in ("fresh x", "R(x) ; assume"):
            self.refuses(BadRow, {"row": 1}, line, "| " * 21 + row)

    def test_formulas(self):
        self.has("every y1: some y2: S(y1, y2) ; assume", "assume", formula="every y1: some y2: S(y1, y2)")
        self.has("(not some y0: y0 = x or S(x, f(z))) ; assume", "assume", formula="(not some y0: y0 = x or S(x, f(z)))")

    def test_spaces_within_formulas_and_terms(self):
        found = line("|   R( x )  ; some 3 by   f( x )+2 ")
        self.assertEqual(found.text, "| R(x) ; some 3 by f(x) + 2")
        self.assertEqual(line("R(x)  ; order"), line("  R(x) ; order"))
        self.assertEqual(line("R(x) ; each 3 at  5 + 2").term.text, "7")
        self.assertEqual(line("R(5 + 2) ; least 3 by x ").text, "R(7) ; least 3 by x")

    def test_a_book_with_choices(self):
        found = read_spoken_line(WITH_CHOICES, "R(x) ; some 1 by x", 7)
        self.assertEqual(found.text, "R(x) ; some 1 by x")
        self.refuses(BadRow, {"row": 7}, read_spoken_line, WITH_CHOICES, "R(Low(x)) ; assume", 7)
        self.refuses(BadRow, {"row": 7}, read_spoken_line, WITH_CHOICES, "some y1: R(Low(y1)) ; assume", 7)
        self.refuses(BadRow, {"row": 7}, read_spoken_line, WITH_CHOICES, "R(x) ; some 1 by Low(x)", 7)
        self.refuses(BadRow, {"row": 7}, read_spoken_line, WITH_CHOICES, "R(x) ; each 1 at f(Low(x))", 7)

    def test_equality(self):
        self.assertEqual(line("R(x) ; every 1"), line("R( x ) ; every 1", 9))
        self.assertNotEqual(line("R(x) ; every 1"), line("R(x) ; every 2"))
        self.assertNotEqual(line("fresh x"), line("| fresh x"))
        self.assertNotEqual(line("fresh x"), "fresh x")


class WrongRowsTest(PackageTest):

    def refused(self, *texts):
        """Each of these rows is refused with its number."""
        for text in texts:
            for row in (1, 200):
                self.refuses(BadRow, {"row": row}, line, text, row)

    def test_rows_without_a_formula_or_a_reason(self):
        self.refused("", "R(x)", "R(x) ;", "R(x) ; ", "R(x);order", "R(x) ;order", "R(x); order", "; order", " ; order",
                     "R(x) ; nothing", "R(x) ; orders", "R(x) ; order ", "R(x) ;  order", "R(x) ; order 1", "R(x) ; assume 1",
                     "R(x) ; Order", "|R(x) ; order", "R(x) ; order ; order")

    def test_formulas_that_cannot_stand(self):
        self.refused("R(x ; order", "R(X) ; order", "R(y1) ; assume", "some y1: S(y1, y2) ; assume", "some y1: R(x) ; assume",
                     "(R(y1) or some y1: R(y1)) ; assume", "Q(x) ; assume", "R(x, x) ; assume", "S(x) ; assume",
                     "h(x) = 3 ; assume", "f(x, x) = 3 ; assume", "R(Low(x)) ; assume", "Low = 3 ; assume",
                     "every y1: R(h(y1)) ; assume", "R(100) ; assume", "R(95 + 5) ; assume", "R(x + 0) ; assume",
                     "every y1: every y1: S(y1, y1) ; assume", f"R({'f(' * 20}x{')' * 20}) ; assume")

    def test_numbers(self):
        for form in ("if {}", "among {}", "cases {} 1", "cases 1 {}", "swap {} 1", "swap 1 {}", "follows {}", "follows 1 {}",
                     "some {} by x", "each {} at x", "least {} by x", "take {} as x", "every {}", "induct {} 1 to x",
                     "induct 1 {} to x"):
            self.assertEqual(line("R(x) ; " + form.format(1200)).text, "R(x) ; " + form.format(1200))
            self.refused(*["R(x) ; " + form.format(shown) for shown in ("0", "1201", "01", "", "x", "-1", "+1", "1.0", "99999")])

    def test_counts_of_numbers(self):
        self.refused(*[f"R(x) ; {shown}" for shown in (
            "if", "if 1 2", "among", "among 1 2", "cases 1", "cases 1 2 3", "swap 1", "swap 1 2 3",
            "follows 1 2 3 4 5 6 7 8 9 1 2 3 4", "some by x", "some 1 2 by x", "each at x", "each 1 2 at x", "least by x",
            "take as x", "take 1 2 as x", "every", "every 1 2", "induct 1 to x", "induct 1 2 3 to x", "induct to x")])

    def test_words_and_spaces(self):
        self.refused(*[f"R(x) ; {shown}" for shown in (
            "some", "some 1", "each", "each 1", "least", "least 1", "take", "take 1", "induct", "induct 1", "induct 1 2",
            "some 1 at x", "each 1 by x", "least 1 at x", "some 1 x", "some 1 byx", "some 1 by", "some 1 by ", "some  1 by x",
            "some 1  by x", " some 1 by x", "take 1 by x", "take 1 x", "take 1 as", "take 1 as ", "take 1 as  x", "take 1 as x ",
            "take  1 as x", "take 1  as x", "take 1 as x y", "every  1", "every 1 ", "induct 1 2 x", "induct 1 2 by x",
            "induct 1 2 to", "induct 1  2 to x", "induct 1 2  to x", "follows  1", "follows 1 ", "if  1", "cases 1  2",
            "induct  1 2 to x", "every")])

    def test_terms_that_cannot_stand(self):
        for form in ("some 1 by {}", "each 1 at {}", "least 1 by {}"):
            self.refused(*["R(x) ; " + form.format(shown) for shown in (
                "y1", "f(y1)", "h(x)", "f(x, x)", "Low(x)", "Low", "R(x)", "100", "x + 0", "x y", "x by x", "x = x", "f(x",
                "f(99 + 1)", "x + 5 + 5", "not")])
            self.assertEqual(line("R(x) ; " + form.format("f(x) + 9")).term.text, "f(x) + 9")

    def test_names_that_are_taken(self):
        for name in ("X", "y1", "abcdefghi", "not", "by", "some", "f(x)", "1", "x1y"):
            self.refused(f"R(x) ; take 1 as {name}", f"fresh {name}", f"| fresh {name}")

    def test_ends_of_inductions(self):
        for end in ("21", "100", "00", "07", "020", "X", "y1", "f(x)", "n + 1", " n", "n ", "n n", "not", "abcdefghi", "-1", ""):
            self.refused(f"R(x) ; induct 1 2 to {end}")
        for end in ("0", "1", "9", "10", "20", "n", "abcdefgh"):
            self.assertEqual(line(f"R(x) ; induct 1 2 to {end}").term.text, end)

    def test_fresh_rows(self):
        self.refused("fresh", "fresh ", "fresh  x", "fresh x ", " fresh x", "fresh x y", "fresh x ; assume", "Fresh x",
                     "fresh x ;", "|fresh x", "|  fresh x", "R(x) ; fresh x", "R(x) ; fresh", "freshx")

    def test_reasons_of_derivations_with_choices(self):
        for shown in ("demand Low(x) by x", "zero Low(x)", "fact x", "fact x y = 3", "least Low(x) by x", "fact", "demand 1 by x"):
            self.refuses(BadRow, {"row": 1}, read_spoken_line, WITH_CHOICES, f"R(x) ; {shown}", 1)

    def test_long_texts(self):
        # A term may be as long as a formula; together they may be longer.
        long_term = term_text_of_length(500)
        text = f"R({term_text_of_length(600)}) ; some 1 by {long_term}"
        self.assertEqual(line(text).text, text)
        self.refused(f"R({term_text_of_length(998)}) ; order")


if __name__ == "__main__":
    unittest.main()

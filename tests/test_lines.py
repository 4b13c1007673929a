"""Point 35: lines."""

import unittest

from support import PackageTest, nested_term, term_text_of_length

from rightatlast.books import Book
from rightatlast.errors import BadRow
from rightatlast.formulatext import read_formula
from rightatlast.lines import Line, read_line
from rightatlast.terms import Term

BOOK = Book.read("fun f 1\nfun g 2\nfun longfunc 2\nrel R 2\npick Low 1: f(y0) <= p1\npick Up 0: Low(y0) = 0\npick Six 6: y0 = p1")


def line(text):
    """The line of a row."""
    return read_line(BOOK, text, 1)


def fields(found):
    """The fields of a line, its terms as texts."""
    return (found.depth, found.formula.text, found.reason, found.numbers, tuple(term.text for term in found.terms),
            found.name, tuple((name, term.text) for name, term in found.puts))


class ReasonsTest(PackageTest):

    def same(self, text, reason, numbers=(), terms=(), name="", puts=()):
        """The row is read as a line with these fields, and its text is the row."""
        found = line(text)
        self.assertIsInstance(found, Line)
        self.assertEqual(fields(found), (0, "x = y", reason, numbers, terms, name, puts))
        self.assertEqual((found.text, str(found)), (text, text))
        for part in (found.numbers, found.terms, found.puts):
            self.assertIs(type(part), tuple)

    def test_reasons_without_lines(self):
        self.same("x = y ; assume", "assume")
        self.same("x = y ; order", "order")

    def test_reasons_with_lines(self):
        self.same("x = y ; if 1", "if", (1,))
        self.same("x = y ; among 1200", "among", (1200,))
        self.same("x = y ; cases 7 3", "cases", (7, 3))
        self.same("x = y ; swap 12 12", "swap", (12, 12))

    def test_follows(self):
        self.same("x = y ; follows", "follows")
        self.same("x = y ; follows 9", "follows", (9,))
        self.same("x = y ; follows 9 1 9", "follows", (9, 1, 9))
        self.same("x = y ; follows 1 2 3 4 5 6 7 8 9 10 11 12", "follows", tuple(range(1, 13)))

    def test_choice_lines(self):
        self.same("x = y ; demand Low(x) by f(3)", "demand", terms=("Low(x)", "f(3)"))
        self.same("x = y ; demand Up by Up", "demand", terms=("Up", "Up"))
        self.same("x = y ; least Low(Up) by z + 3", "least", terms=("Low(Up)", "z + 3"))
        self.same("x = y ; least Up by 3", "least", terms=("Up", "3"))
        self.same("x = y ; zero Low(x)", "zero", terms=("Low(x)",))
        self.same("x = y ; zero Up", "zero", terms=("Up",))

    def test_facts(self):
        self.same("x = y ; fact low", "fact", name="low")
        self.same("x = y ; fact low x = f(y)", "fact", name="low", puts=(("x", "f(y)"),))
        self.same("x = y ; fact low y = x, x = y + 1, low = g(Low(x), 3), b = 0", "fact", name="low",
                  puts=(("y", "x"), ("x", "y + 1"), ("low", "g(Low(x), 3)"), ("b", "0")))
        self.same("x = y ; fact g z = g(g(x, y), z)", "fact", name="g", puts=(("z", "g(g(x, y), z)"),))
        self.same("x = y ; fact fact fact = fact", "fact", name="fact", puts=(("fact", "fact"),))

    def test_what_the_fields_are(self):
        found = line("x = y ; fact low x = f(y)")
        self.assertEqual(found.formula, read_formula("x = y"))
        self.assertIsInstance(found.puts[0][1], Term)
        self.assertEqual(line("x = y ; zero Low(x)").terms, (Term.of_choice("Low", Term.of_name("x")),))

    def test_a_demand_whose_formula_would_be_too_large_can_be_read(self):
        book = Book.read("fun g 2\npick Low 1: g(g(p1, p1), g(p1, p1)) = y0")
        wide = "x"
        for _ in range(5):
            wide = f"g({wide}, {wide})"
        for text in (f"x = y ; demand Low({wide}) by 1", f"x = y ; least Low({wide}) by 1", f"x = y ; zero Low({wide})"):
            self.assertEqual(read_line(book, text, 1).text, text)


class DepthTest(PackageTest):

    def test_depths(self):
        for depth in (0, 1, 2, 19, 20):
            text = "| " * depth + "not R(x, 3) ; follows 1"
            self.assertEqual((line(text).depth, line(text).text), (depth, text))
        for depth in (21, 22, 1000, 400000):
            self.refuses(BadRow, {"row": 5}, read_line, BOOK, "| " * depth + "x = y ; order", 5)

    def test_other_bars(self):
        for text in ("|x = y ; order", "||x = y ; order", "|| x = y ; order", "| |x = y ; order", " | x = y ; order",
                     "x = y | ; order", "x = y ; | order", "| ; order", "|", "| ", "\t| x = y ; order"):
            self.refuses(BadRow, {"row": 3}, read_line, BOOK, text, 3)
        self.assertEqual(line("|  x = y ; order").text, "| x = y ; order")
        self.assertEqual(line("| |  x = y ; order").text, "| | x = y ; order")


class SpacesTest(PackageTest):

    def test_spaces_in_formulas_and_terms(self):
        for text, shown in [("  x=y  ; order", "x = y ; order"), ("x  =  y ; order", "x = y ; order"),
                            ("R( x,3 ) ; order", "R(x, 3) ; order"),
                            ("x = y ; demand  Low( x )  by  f(3) ", "x = y ; demand Low(x) by f(3)"),
                            ("x = y ; demand Low(x)by f(3)", "x = y ; demand Low(x) by f(3)"),
                            ("x = y ; least   Up by 3   ", "x = y ; least Up by 3"),
                            ("x = y ; zero  Low( x ) ", "x = y ; zero Low(x)"),
                            ("x = y ; fact low x =  f( y ) , y =   3 ", "x = y ; fact low x = f(y), y = 3"),
                            ("x = y ; fact low x = g(x,y), y = g( x , 3 )",
                             "x = y ; fact low x = g(x, y), y = g(x, 3)")]:
            self.assertEqual(line(text).text, shown)

    def test_spaces_nowhere_else(self):
        for text in ("x = y ;order", "x = y; order", "x = y;order", "x = y ;  order", "x = y ; order ", "x = y ;",
                     "x = y ; ", "x = y ; assume ", "x = y ; if  1", "x = y ; if 1 ", "x = y ;  if 1", "x = y ; if1",
                     "x = y ; cases 1  2", "x = y ; cases 1, 2", "x = y ; follows ", "x = y ; follows  1",
                     "x = y ; follows 1 2 ", "x = y ;  demand Low(x) by 3", "x = y ; demandLow(x) by 3",
                     "x = y ;  zero Up", "x = y ;  fact low", "x = y ; fact  low", "x = y ; fact low ",
                     "x = y ; fact low  x = 3", "x = y ; fact low x= 3", "x = y ; fact low x =3", "x = y ; fact low x=3",
                     "x = y ; fact low x  = 3", "x = y ; fact low x = 3,y = 4", "x = y ; fact low x = 3,  y = 4",
                     "x = y ; fact low x = 3, y  = 4", "x = y ; fact low x = 3, y= 4", "x = y\t; order",
                     "x = y ;\torder"):
            with self.subTest(text=text):
                self.refuses(BadRow, {"row": 2}, read_line, BOOK, text, 2)

    def test_sums_that_are_read_as_numbers(self):
        self.assertEqual(line("5 + 3 = x ; demand Low(90 + 9) by 0 + 7").text, "8 = x ; demand Low(99) by 7")
        self.assertEqual(line("x = 3 ; fact low x = 1 + 2").text, "x = 3 ; fact low x = 3")
        self.assertEqual(line("x = 3 ; zero Low(4 + 4)").text, "x = 3 ; zero Low(8)")

    def test_equality(self):
        self.assertEqual(line("| x=y ; follows 1"), line("| x = y ; follows 1"))
        self.assertNotEqual(line("| x = y ; follows 1"), line("x = y ; follows 1"))
        self.assertNotEqual(line("x = y ; follows 1"), line("x = y ; among 1"))
        self.assertFalse(line("x = y ; order") == "x = y ; order")


class WrongRowsTest(PackageTest):

    def wrong(self, *texts):
        """Each text is refused, with the number that is passed."""
        for text in texts:
            for row in (1, 1200):
                with self.subTest(text=text):
                    self.refuses(BadRow, {"row": row}, read_line, BOOK, text, row)

    def test_no_sign(self):
        self.wrong("", " ", "x = y", "x = y order", ";", " ; ", "; order", " ; order", "x = y : order")

    def test_formulas(self):
        self.wrong(" ; order", "x ; order", "x = ; order", "x = y = z ; order", "(x = y) ; order", "p ; order",
                   "x + 0 = y ; order", "99 + 1 = y ; order", "x + 5 + 5 = y ; order",
                   "x = y" + " " * 1000 + " ; order", "not " * 20 + "x = y ; order", "R(x) ; order")
        self.wrong("y0 = x ; order", "f(p1) = x ; order", "some y1: y1 = x ; order",
                   "(x = y and every y1: R(y1, x)) ; order")
        self.wrong("g(x) = y ; order", "h(x) = y ; order", "R(x) ; order", "S(x) ; order", "Low = 1 ; order",
                   "Neu = 1 ; order", "Low(x, y) = 1 ; order", "f(x, y) = 1 ; order")

    def test_the_first_sign_ends_the_formula(self):
        self.wrong("x = y ; order ; order", "x = y ; fact low x = 3 ; order", "x = y ; zero Up ; order")

    def test_reasons(self):
        self.wrong("x = y ; ", "x = y ; orders", "x = y ; Order", "x = y ; assume 1", "x = y ; order 1", "x = y ; if",
                   "x = y ; if 1 2", "x = y ; among", "x = y ; among 1 2", "x = y ; cases 1", "x = y ; cases 1 2 3",
                   "x = y ; swap 1", "x = y ; swap", "x = y ; swap 1 2 3", "x = y ; some 1 by 3", "x = y ; take 1 as x",
                   "x = y ; fresh x", "x = y ; 1", "x = y ; if x", "x = y ; demand", "x = y ; least", "x = y ; zero",
                   "x = y ; fact", "x = y ; each 1 at x", "x = y ; every 1", "x = y ; induct 1 2 to 3")

    def test_numbers(self):
        for number in ("0", "1201", "01", "001", "+1", "-1", "1_0", "12000", "1.0", "x", "9" * 5000):
            self.wrong(f"x = y ; if {number}", f"x = y ; cases 1 {number}", f"x = y ; follows {number} 2")
        self.wrong("x = y ; follows 1 2 3 4 5 6 7 8 9 10 11 12 13")

    def test_demand_and_least_rows(self):
        for word in ("demand", "least"):
            self.wrong(f"x = y ; {word} ", f"x = y ; {word} Low(x)", f"x = y ; {word} x by 3", f"x = y ; {word} Low(x) by",
                       f"x = y ; {word} f(x) by 3", f"x = y ; {word} Low(x) + 1 by 3", f"x = y ; {word} Low by 3",
                       f"x = y ; {word} Neu by 3", f"x = y ; {word} Low(y1) by 3", f"x = y ; {word} Low(x) by y1",
                       f"x = y ; {word} Low(x) by h(x)", f"x = y ; {word} Low(x) by 3 by 3", f"x = y ; {word} Low(x) by x + 0",
                       f"x = y ; {word} Low(x) by 99 + 1", f"x = y ; {word} Low(x) by R(x, x)", f"x = y ; {word} 1",
                       f"x = y ; {word} Low(x) by 3" + " " * 1000, f"x = y ; {word} Low(g(x)) by 3")

    def test_zero_rows(self):
        self.wrong("x = y ; zero ", "x = y ; zero x", "x = y ; zero 0", "x = y ; zero f(x)", "x = y ; zero Low(x) + 1",
                   "x = y ; zero Low", "x = y ; zero Neu", "x = y ; zero Low(y1)", "x = y ; zero Low(h(x))",
                   "x = y ; zero Low(x) by 3", "x = y ; zero Up" + " " * 1000, "x = y ; zero 1")

    def test_fact_rows(self):
        self.wrong("x = y ; fact ", "x = y ; fact Low", "x = y ; fact not", "x = y ; fact by", "x = y ; fact abcdefghi",
                   "x = y ; fact y1", "x = y ; fact low x", "x = y ; fact low x =", "x = y ; fact low x = ",
                   "x = y ; fact low x = 3,", "x = y ; fact low x = 3, ", "x = y ; fact low x = 3, y",
                   "x = y ; fact low x = 3, y = ", "x = y ; fact low X = 3", "x = y ; fact low y1 = 3",
                   "x = y ; fact low not = 3", "x = y ; fact low x = y1", "x = y ; fact low x = h(x)",
                   "x = y ; fact low x = 3, y = Low", "x = y ; fact low x = 3 = 4", "x = y ; fact low x = y = 4",
                   "x = y ; fact low = 3", "x = y ; fact = 3", "x = y ; fact low x = 3, x = 4",
                   "x = y ; fact low x = 3, y = 4, x = 3", "x = y ; fact low x = R(x, x)", "x = y ; fact low, x = 3",
                   "x = y ; fact low x = f(x, y = 4", "x = y ; fact low x = 3 y = 4", "x = y ; fact low 1",
                   "x = y ; fact low x = 3, f(y) = 4", "x = y ; fact low x = 99 + 1", "x = y ; fact low x <= 3")


class LongTest(PackageTest):

    def test_head_by_term_of_1000_and_1001_characters(self):
        head = f"Six({term_text_of_length(500)}, x, 1, 2, 3, y)"
        for word in ("demand", "least"):
            text = f"x = y ; {word} {head} by {term_text_of_length(1000 - len(head) - 4)}"
            self.assertEqual(len(text), len(f"x = y ; {word} ") + 1000)
            self.assertEqual(line(text).text, text)
            text = f"x = y ; {word} {head} by {term_text_of_length(1001 - len(head) - 4)}"
            self.refuses(BadRow, {"row": 7}, read_line, BOOK, text, 7)

    def test_the_text_counts_as_it_is_put_together(self):
        # Without spaces the text is short enough to be read; put together it is too long.
        head = f"Six({term_text_of_length(500)}, x, 1, 2, 3, y)"
        for length in (1000, 1001, 1010):
            text = f"{head} by {term_text_of_length(length - len(head) - 4)}"
            tight = text.replace(", ", ",")
            self.assertEqual((len(text), len(tight) < 1000), (length, True))
            if length == 1000:
                self.assertEqual(line(f"x = y ; demand {tight}").text, f"x = y ; demand {text}")
            else:
                self.refuses(BadRow, {"row": 1}, read_line, BOOK, f"x = y ; demand {tight}", 1)

    def test_zero_rows_have_no_such_text(self):
        head = f"Six({term_text_of_length(600)}, x, 1, 2, 3, y)"
        self.assertGreater(2 * len(head) + 4, 1000)
        self.assertEqual(line(f"x = y ; zero {head}").text, f"x = y ; zero {head}")

    def test_the_length_of_a_row_is_free(self):
        terms = ", ".join(f"{letter} = {term_text_of_length(900)}" for letter in "abcdefg")
        text = f"x <= {term_text_of_length(900)} ; fact low {terms}"
        self.assertGreater(len(text), 7000)
        self.assertEqual(line(text).text, text)

    def test_terms_at_their_limits(self):
        self.assertEqual(line(f"x = {nested_term(20)} ; order").formula.terms[1].depth, 20)
        deep = f"f({nested_term(20)})"
        for text in (f"x = {deep} ; order", f"x = y ; zero Low({nested_term(20)})", f"x = y ; demand Up by {deep}",
                     f"x = y ; fact low x = {deep}"):
            self.refuses(BadRow, {"row": 1}, read_line, BOOK, text, 1)


if __name__ == "__main__":
    unittest.main()

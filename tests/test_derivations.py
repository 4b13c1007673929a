"""Point 35: derivations."""

import unittest

from support import PackageTest

from rightatlast.books import Book
from rightatlast.derivations import Derivation
from rightatlast.errors import BadRow, TooLarge
from rightatlast.formulatext import read_formula
from rightatlast.lines import Line

BOOK = Book.read("rel R 1\npick Low 1: (R(y0) and y0 <= p1)")
ROWS = ["| x <= y ; assume", "| (x <= y -> x <= y + 1) ; order", "| x <= y + 1 ; follows 1 2",
        "| (R(x) or x <= y + 1) ; among 3", "(x <= y -> (R(x) or x <= y + 1)) ; if 1"]
TEXT = "\n".join(ROWS)


class FieldsTest(PackageTest):

    def test_fields(self):
        derivation = Derivation.read(BOOK, TEXT)
        self.assertEqual((derivation.book, derivation.text, str(derivation)), (BOOK, TEXT, TEXT))
        self.assertEqual(derivation.claim, read_formula("(x <= y -> (R(x) or x <= y + 1))"))
        self.assertIs(type(derivation.lines), tuple)
        self.assertEqual([line.text for line in derivation.lines], ROWS)
        self.assertIsInstance(derivation.lines[0], Line)
        self.reads_back(lambda text: Derivation.read(BOOK, text), derivation)

    def test_length_and_iteration(self):
        derivation = Derivation.read(BOOK, TEXT)
        self.assertEqual(len(derivation), 5)
        self.assertEqual([line.text for line in derivation], ROWS)
        self.assertEqual(list(derivation), list(derivation.lines))
        self.assertEqual([line.depth for line in derivation], [1, 1, 1, 1, 0])

    def test_one_row(self):
        derivation = Derivation.read(BOOK, " x=x  ; order")
        self.assertEqual((len(derivation), derivation.text, derivation.claim.text), (1, "x = x ; order", "x = x"))

    def test_the_text_is_put_together_anew(self):
        derivation = Derivation.read(BOOK, "| x<=y ; assume\n( x<=y->5+3 = Low( 1 ) ) ; follows 1")
        self.assertEqual(derivation.text, "| x <= y ; assume\n(x <= y -> 8 = Low(1)) ; follows 1")

    def test_equality(self):
        derivation = Derivation.read(BOOK, TEXT)
        other_book = Book.read("rel R 1")
        self.assertEqual(derivation, Derivation.read(other_book, TEXT.replace("R(x)", "R( x )")))
        self.assertNotEqual(derivation, Derivation.read(BOOK, "\n".join(ROWS[:4])))
        self.assertFalse(derivation == TEXT)

    def test_lines_need_not_be_right(self):
        text = "| | R(x) ; if 1200\nR(Low(3)) ; fact neu\n| R(x) ; assume"
        self.assertEqual(Derivation.read(BOOK, text).text, text)


class WrongRowsTest(PackageTest):

    def test_the_number_of_the_first_wrong_row(self):
        for number in range(5):
            for row in ("", "x <= y", "x <= y ; of", "| " * 21 + "x <= y ; order", "S(x) ; order", "y0 = x ; order"):
                rows = list(ROWS)
                rows[number] = row
                self.refuses(BadRow, {"row": number + 1}, Derivation.read, BOOK, "\n".join(rows))
                self.refuses(BadRow, {"row": number + 1}, Derivation.read, BOOK, "\n".join(rows + [row]))

    def test_the_empty_text_and_empty_rows(self):
        self.refuses(BadRow, {"row": 1}, Derivation.read, BOOK, "")
        self.refuses(BadRow, {"row": 1}, Derivation.read, BOOK, "\n")
        self.refuses(BadRow, {"row": 6}, Derivation.read, BOOK, TEXT + "\n")

    def test_1200_and_1201_rows(self):
        self.assertEqual(len(Derivation.read(BOOK, "\n".join(["x = x ; order"] * 1200))), 1200)
        self.refuses(TooLarge, {}, Derivation.read, BOOK, "\n".join(["x = x ; order"] * 1201))
        self.refuses(TooLarge, {}, Derivation.read, BOOK, "\n" * 1200)
        self.refuses(BadRow, {"row": 1}, Derivation.read, BOOK, "\n" * 1199)


if __name__ == "__main__":
    unittest.main()

"""Point 50: spoken derivations."""

import unittest

from support import PackageTest

from rightatlast.books import Book
from rightatlast.errors import BadRow, BadWord, HasChoices, TooLarge
from rightatlast.formulatext import read_formula
from rightatlast.spoken import Spoken
from rightatlast.spokenlines import SpokenLine

BOOK = Book.read("fun f 1\nrel R 1")
ROWS = ["| every y1: R(y1) ; assume", "| R(f(n)) ; each 1 at f(n)", "| some y1: R(f(y1)) ; some 2 by n",
        "(every y1: R(y1) -> some y1: R(f(y1))) ; if 1"]
TEXT = "\n".join(ROWS)


class SpokenTest(PackageTest):

    def test_fields(self):
        spoken = Spoken.read(BOOK, ["n", "a"], TEXT)
        self.assertIsInstance(spoken, Spoken)
        self.assertEqual((spoken.book, spoken.inputs), (BOOK, ("n", "a")))
        self.assertIsInstance(spoken.lines, tuple)
        self.assertTrue(all(isinstance(line, SpokenLine) for line in spoken.lines))
        self.assertEqual([line.text for line in spoken.lines], ROWS)
        self.assertEqual(spoken.claim, read_formula("(every y1: R(y1) -> some y1: R(f(y1)))"))
        self.assertEqual((spoken.text, str(spoken), len(spoken)), (TEXT, TEXT, 4))
        self.assertEqual([line.text for line in spoken], ROWS)
        self.assertEqual(list(spoken), list(spoken.lines))

    def test_the_text_is_put_together_anew(self):
        spoken = Spoken.read(BOOK, [], "R( x )  ; order\n|  R(3 + 4) ; some 1 by   f( x )")
        self.assertEqual(spoken.text, "R(x) ; order\n| R(7) ; some 1 by f(x)")
        self.assertEqual(Spoken.read(BOOK, [], spoken.text), spoken)

    def test_wrong_lines_can_be_read(self):
        spoken = Spoken.read(BOOK, [], "fresh x\n| | | R(x) ; if 7\nR(u) ; every 1200")
        self.assertEqual([line.depth for line in spoken], [0, 3, 0])

    def test_the_claim(self):
        self.assertEqual(Spoken.read(BOOK, [], "R(x) ; order").claim, read_formula("R(x)"))
        self.assertIsNone(Spoken.read(BOOK, [], "R(x) ; order\n| fresh y").claim)
        self.assertIsNone(Spoken.read(BOOK, [], "fresh y").claim)

    def test_equality(self):
        spoken = Spoken.read(BOOK, ["n", "a"], TEXT)
        self.assertEqual(spoken, Spoken.read(Book.read(BOOK.text), ["n", "a"], TEXT.replace(" ; each", "   ; each")))
        self.assertNotEqual(spoken, Spoken.read(BOOK, ["a", "n"], TEXT))
        self.assertNotEqual(spoken, Spoken.read(BOOK, ["n"], TEXT))
        self.assertNotEqual(spoken, Spoken.read(BOOK, ["n", "a", "b"], TEXT))
        self.assertNotEqual(spoken, Spoken.read(Book.read("rel R 1\nfun f 1"), ["n", "a"], TEXT))
        self.assertNotEqual(spoken, Spoken.read(BOOK, ["n", "a"], TEXT.replace("f(n)", "f(f(n))", 1)))
        self.assertNotEqual(spoken, TEXT)
        self.assertFalse(spoken == None)  # noqa: E711

    def test_the_inputs_are_copied(self):
        inputs = ["n", "a"]
        spoken = Spoken.read(BOOK, inputs, TEXT)
        inputs.append("b")
        self.assertEqual(spoken.inputs, ("n", "a"))

    def test_6_and_7_inputs(self):
        self.assertEqual(Spoken.read(BOOK, list("abcdef"), TEXT).inputs, tuple("abcdef"))
        self.refuses(TooLarge, {}, Spoken.read, BOOK, list("abcdefg"), TEXT)
        self.assertEqual(Spoken.read(BOOK, [], TEXT).inputs, ())

    def test_bad_inputs(self):
        for inputs, word in ((["n", "N"], "N"), (["n", "y1"], "y1"), (["n", "a", "n"], "n"), (["n", "not", "n"], "not"),
                             (["a", "a", "B"], "a"), (["", "a"], ""), (["abcdefghi"], "abcdefghi"), (["a", "b", "b", "a"], "b")):
            self.refuses(BadWord, {"word": word}, Spoken.read, BOOK, inputs, TEXT)

    def test_200_and_201_rows(self):
        self.assertEqual(len(Spoken.read(BOOK, [], "\n".join(["0 = 0 ; order"] * 200))), 200)
        self.refuses(TooLarge, {}, Spoken.read, BOOK, [], "\n".join(["wrong"] + ["0 = 0 ; order"] * 200))

    def test_bad_rows(self):
        self.refuses(BadRow, {"row": 1}, Spoken.read, BOOK, [], "")
        self.refuses(BadRow, {"row": 5}, Spoken.read, BOOK, [], TEXT + "\n")
        self.refuses(BadRow, {"row": 3}, Spoken.read, BOOK, [], "\n".join(ROWS[:2] + ["R(y1) ; order", "wrong"]))
        self.refuses(BadRow, {"row": 200}, Spoken.read, BOOK, [], "\n".join(["0 = 0 ; order"] * 199 + ["0 = 0"]))

    def test_the_order_of_the_errors(self):
        book = Book.read("fun f 1\npick Low 1: f(y0) <= p1")
        self.refuses(HasChoices, {}, Spoken.read, book, list("abcdefgA"), "wrong\n" * 300)
        self.refuses(TooLarge, {}, Spoken.read, BOOK, list("Abcdefg"), "wrong")
        self.refuses(BadWord, {"word": "A"}, Spoken.read, BOOK, ["A"], "wrong\n" * 300)
        self.refuses(BadWord, {"word": "A"}, Spoken.read, BOOK, ["A"], "")


if __name__ == "__main__":
    unittest.main()

"""Point 43: libraries."""

import unittest

from support import PackageTest

from rightatlast.books import Book
from rightatlast.checker import first_wrong_line, is_accepted
from rightatlast.derivations import Derivation
from rightatlast.errors import BadWord, TakenName, TooLarge, UnknownName, WrongBook, WrongLine
from rightatlast.library import Library

BOOK = Book.read("fun f 1\nrel R 1\npick Low 1: f(y0) <= p1")
EMPTY = Library(BOOK)


def derivation(*rows, book=BOOK):
    """The derivation of some rows."""
    return Derivation.read(book, "\n".join(rows))


STEP = derivation("(x <= y -> x <= y + 1) ; order")
SELF = derivation("x = x ; order")
WRONG = derivation("x = x ; order", "x = y ; order", "y = x ; order")


class LibraryTest(PackageTest):

    def test_without_facts(self):
        self.assertEqual((EMPTY.book, EMPTY.names), (BOOK, ()))
        self.assertIs("step" in EMPTY, False)
        self.refuses(UnknownName, {"name": "step"}, EMPTY.fact, "step")

    def test_added_facts(self):
        library = EMPTY.added("step", STEP).added("self", SELF).added("fact", STEP)
        self.assertIsInstance(library, Library)
        self.assertEqual((library.book, library.names), (BOOK, ("step", "self", "fact")))
        self.assertEqual([library.fact(name) for name in library.names], [STEP, SELF, STEP])
        for name in ("step", "self", "fact"):
            self.assertIs(name in library, True)
        for name in ("x", "", "Step", "steps", "R"):
            self.assertIs(name in library, False)
            self.refuses(UnknownName, {"name": name}, library.fact, name)

    def test_libraries_as_they_were_before(self):
        first = EMPTY.added("step", STEP)
        second = first.added("self", SELF)
        other = first.added("self", STEP)
        self.assertEqual((EMPTY.names, first.names, second.names, other.names),
                         ((), ("step",), ("step", "self"), ("step", "self")))
        self.assertEqual(("self" in first, "self" in second, "step" in EMPTY), (False, True, False))
        self.assertEqual((second.fact("self"), other.fact("self")), (SELF, STEP))
        self.refuses(UnknownName, {"name": "self"}, first.fact, "self")

    def test_facts_use_earlier_facts(self):
        two = derivation("(x <= y -> x <= y + 1) ; fact step", "(x <= y + 1 -> x <= y + 2) ; fact step y = y + 1",
                         "(x <= y -> x <= y + 2) ; follows 1 2")
        self.refuses(WrongLine, {"line": 1}, EMPTY.added, "two", two)
        library = EMPTY.added("step", STEP)
        self.refuses(WrongLine, {"line": 1}, library.added, "two", derivation("(x <= y -> x <= y + 2) ; fact two"))
        library = library.added("two", two)
        self.assertTrue(is_accepted(library, derivation("(f(x) <= 3 -> f(x) <= 5) ; fact two x = f(x), y = 3")))
        self.assertEqual(first_wrong_line(EMPTY.added("step", STEP), derivation("x = x ; order",
                                                                                "(x <= y -> x <= y + 2) ; fact two")), 2)

    def test_30_and_31_facts(self):
        library = EMPTY
        for number in range(30):
            library = library.added("abcdefghijklmnopqrstuvwxyz"[number % 26] * (1 + number // 26), SELF)
        self.assertEqual((len(library.names), library.names[29]), (30, "dd"))
        self.refuses(TooLarge, {}, library.added, "ee", SELF)


class ErrorsTest(PackageTest):

    def test_each_error(self):
        for name in ("", "Low", "R", "y1", "not", "by", "abcdefghi", "a b"):
            self.refuses(BadWord, {"word": name}, EMPTY.added, name, SELF)
        library = EMPTY.added("step", STEP)
        self.refuses(TakenName, {"row": 0}, library.added, "step", SELF)
        other = derivation("x = x ; order", book=Book.read("fun f 1"))
        self.refuses(WrongBook, {}, library.added, "self", other)
        self.refuses(WrongLine, {"line": 2}, library.added, "self", WRONG)
        self.refuses(WrongLine, {"line": 1}, library.added, "self", derivation("| x = x ; assume"))
        self.assertEqual(library.names, ("step",))

    def test_the_names_of_functions_are_free(self):
        self.assertEqual(EMPTY.added("f", SELF).names, ("f",))

    def test_an_equal_book(self):
        self.assertEqual(EMPTY.added("self", derivation("x = x ; order", book=Book.read(BOOK.text))).names, ("self",))

    def test_the_order_of_the_errors(self):
        other = derivation("x = y ; order", book=Book.read("fun f 1"))
        library = EMPTY
        for number in range(29):
            library = library.added("abcdefghijklmnopqrstuvwxyz"[number % 26] * (1 + number // 26), SELF)
        self.refuses(WrongBook, {}, library.added, "other", other)
        self.refuses(WrongLine, {"line": 2}, library.added, "other", WRONG)
        library = library.added("last", SELF)
        self.refuses(BadWord, {"word": "Other"}, library.added, "Other", other)
        self.refuses(TakenName, {"row": 0}, library.added, "a", other)
        self.refuses(TooLarge, {}, library.added, "other", other)


if __name__ == "__main__":
    unittest.main()

"""Points 15 and 16: worlds."""

import unittest

from support import PackageTest

from rightatlast.books import Book
from rightatlast.errors import BadCount, BadPlace, BadRow, TooLarge, UnknownName
from rightatlast.worlds import World

BOOK = Book.read("fun f 1\nrel R 2\npick Low 0: y0 = 1\nfun g 2\nrel S 1")
TEXT = "top 1\nf 3 99\nR 0 1 1 0\ng 0 1 2 3\nS 1 0"
WORLD = World.read(BOOK, TEXT)


class ReadingTest(PackageTest):

    def test_fields(self):
        self.assertEqual(WORLD.top, 1)
        self.assertEqual(WORLD.book, BOOK)
        self.assertEqual(WORLD.places, (("f", (0,)), ("f", (1,)), ("R", (0, 0)), ("R", (0, 1)), ("R", (1, 0)),
                                        ("R", (1, 1)), ("g", (0, 0)), ("g", (0, 1)), ("g", (1, 0)), ("g", (1, 1)),
                                        ("S", (0,)), ("S", (1,))))
        self.assertEqual(WORLD.text, TEXT)
        self.reads_back(lambda text: World.read(BOOK, text), WORLD)

    def test_tops(self):
        book = Book.read("fun f 1\nrel R 2")
        for top in range(10):
            numbers = [str(number) for number in range(top + 1)]
            bits = [str((first + second) % 2) for first in range(top + 1) for second in range(top + 1)]
            text = f"top {top}\nf {' '.join(numbers)}\nR {' '.join(bits)}"
            world = World.read(book, text)
            self.assertEqual((world.top, world.text), (top, text))
            self.assertEqual(len(world.places), (top + 1) * (top + 2))
            for first in range(12):
                self.assertEqual(world.at("f", first), min(first, top))
                for second in range(12):
                    self.assertIs(world.at("R", first, second), (min(first, top) + min(second, top)) % 2 == 1)

    def test_books_without_tables(self):
        for text in ("", "pick Low 0: y0 = 1"):
            world = World.read(Book.read(text), "top 9")
            self.assertEqual((world.text, world.places), ("top 9", ()))

    def test_equality(self):
        other = World.read(Book.read("fun f 1\nrel R 2\nfun g 2\nrel S 1"), TEXT)
        self.assertEqual(other, WORLD)
        self.assertNotEqual(World.read(BOOK, TEXT.replace("99", "98")), WORLD)
        self.assertFalse(WORLD == TEXT)

    def bad(self, text, row, book=BOOK):
        with self.subTest(text=text):
            self.refuses(BadRow, {"row": row}, World.read, book, text)

    def test_the_first_row(self):
        rest = TEXT[len("top 1"):]
        for row in ("", "top", "top ", "top 10", "top 01", "top x", "top 1 ", " top 1", "top  1", "Top 1", "top 1 1",
                    "top -1", "f 3 99", "top\t1"):
            self.bad(row + rest, 1)
        self.bad("", 1)
        self.bad("\n" * 10, 1)

    def test_rows_of_a_wrong_form(self):
        rows = TEXT.split("\n")
        for number, row in [(2, "f 3"), (2, "f 3 99 1"), (2, "f 3 100"), (2, "f 03 99"), (2, "f 3  99"), (2, "f 3 99 "),
                            (2, " f 3 99"), (2, "f"), (2, ""), (2, "f 3, 99"), (2, "f x 99"), (2, "f -3 99"),
                            (2, "g 3 99"), (2, "f 00 99"), (2, "f 3 +9"), (2, "f 3 " + "9" * 4999),
                            (3, "R 0 1 1 2"), (3, "R 0 1 1"), (3, "R 0 1 1 0 0"), (3, "R 0 1 1 00"), (3, "S 0 1 1 0"),
                            (3, "R 0 1 1 True"), (4, "Low 0 1 2 3"), (4, "S 1 0"), (5, "S 1 2"), (5, "s 1 0")]:
            changed = list(rows)
            changed[number - 1] = row
            self.bad("\n".join(changed), number)

    def test_missing_rows_and_rows_too_many(self):
        rows = TEXT.split("\n")
        for count in range(1, 5):
            self.bad("\n".join(rows[:count]), count + 1)
        self.bad(TEXT + "\n", 6)
        self.bad(TEXT + "\nS 1 0\nT", 6)
        self.bad("top 3\n", 2, Book.read(""))
        self.bad("top 3\nf 1", 2, Book.read("pick Low 0: y0 = 1"))

    def test_the_first_row_that_is_wrong(self):
        self.bad("top x\nf 3", 1)
        self.bad("top 1\nf 3\nR 0", 2)
        self.bad("top 1\nf 3", 2)
        self.bad(TEXT.replace("S 1 0", "S 1") + "\n", 5)


class AtTest(PackageTest):

    def test_values(self):
        self.assertEqual([WORLD.at("f", 0), WORLD.at("f", 1), WORLD.at("g", 0, 1), WORLD.at("g", 1, 0)], [3, 99, 1, 2])
        self.assertIs(WORLD.at("R", 0, 1), True)
        self.assertIs(WORLD.at("R", 1, 1), False)
        self.assertIs(WORLD.at("S", 0), True)
        self.assertIs(type(WORLD.at("f", 0)), int)

    def test_numbers_above_the_top(self):
        self.assertEqual([WORLD.at("f", 2), WORLD.at("f", 99999), WORLD.at("g", 0, 99999), WORLD.at("g", 7, 0)],
                         [99, 99, 1, 2])
        self.assertIs(WORLD.at("R", 99999, 0), True)

    def test_errors_in_their_order(self):
        for name in ("h", "Low", "T", "", "x"):
            self.refuses(UnknownName, {"name": name}, WORLD.at, name, 100000, 0, 0)
        for name, numbers in (("f", ()), ("f", (1, 100000)), ("R", (100000,)), ("R", (0, 0, 0)), ("S", ())):
            self.refuses(BadCount, {"name": name}, WORLD.at, name, *numbers)
        self.refuses(TooLarge, {}, WORLD.at, "f", 100000)
        self.refuses(TooLarge, {}, WORLD.at, "R", 0, 100000)
        self.refuses(TooLarge, {}, WORLD.at, "R", 10 ** 3999, 0)


class ChangedTest(PackageTest):

    def test_one_place(self):
        world = WORLD.changed("f", (1,), 7)
        self.assertEqual(world.text, TEXT.replace("f 3 99", "f 3 7"))
        self.assertEqual(world.changed("g", (1, 0), 0).text, world.text.replace("g 0 1 2 3", "g 0 1 0 3"))
        self.assertEqual(WORLD.text, TEXT)
        self.assertEqual(WORLD.at("f", 5), 99)
        self.assertEqual(world.at("f", 5), 7)
        self.assertEqual(WORLD.changed("f", (0,), 99).at("f", 0), 99)

    def test_relations(self):
        world = WORLD.changed("R", (1, 1), True).changed("S", (0,), False)
        self.assertEqual(world.text, TEXT.replace("R 0 1 1 0", "R 0 1 1 1").replace("S 1 0", "S 0 0"))
        self.assertIs(world.at("R", 1, 1), True)
        self.assertIs(world.at("S", 0), False)
        self.assertEqual(World.read(BOOK, world.text), world)
        self.assertEqual(world.book, BOOK)

    def test_errors_in_their_order(self):
        for name in ("h", "Low", "T"):
            self.refuses(UnknownName, {"name": name}, WORLD.changed, name, (2, 2, 2), 100)
        for name, place, value in (("f", (2,), 100), ("f", (), 1), ("f", (0, 0), 1), ("R", (0,), True),
                                   ("R", (2, 0), True), ("R", (0, 2), False), ("g", (0, 99), 100)):
            self.refuses(BadPlace, {"place": place}, WORLD.changed, name, place, value)
        self.refuses(TooLarge, {}, WORLD.changed, "f", (0,), 100)
        self.refuses(TooLarge, {}, WORLD.changed, "g", (1, 1), 10 ** 3999)


if __name__ == "__main__":
    unittest.main()

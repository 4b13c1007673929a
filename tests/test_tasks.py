"""Points 22 and 23: tasks, true and false demands."""

import unittest

from support import PackageTest

from rightatlast.books import Book
from rightatlast.demands import Demand
from rightatlast.errors import BadDemand, BadInput, MissingInput, TooLarge, TooWide, WrongBook
from rightatlast.guesses import Guesses
from rightatlast.tasks import Task
from rightatlast.worlds import World

BOOK = Book.read("fun f 1\nrel R 1\npick Low 1: f(y0) <= p1\npick Zero 0: R(y0)\npick Up 1: R(Low(y0))")
WORLD = World.read(BOOK, "top 3\nf 9 7 2 5\nR 0 1 0 1")
EMPTY = Guesses([])
ROWS = ["Low(x) by 2", "Zero by Low(x)", "Up(y) by 1", "Low(9) by 3"]


def task(rows, inputs, world=WORLD, book=BOOK):
    """The task with these rows."""
    return Task(book, world, inputs, rows)


class FieldsTest(PackageTest):

    def test_fields(self):
        found = task([" Low( x )by 2", "Zero by Low(x)"], {"z": 99, "x": 5, "b": 0})
        self.assertEqual((found.book, found.world), (BOOK, WORLD))
        self.assertEqual(found.inputs, (("b", 0), ("x", 5), ("z", 99)))
        self.assertEqual([demand.text for demand in found.demands], ["Low(x) by 2", "Zero by Low(x)"])
        self.assertIs(type(found.demands), tuple)
        self.assertIsInstance(found.demands[0], Demand)

    def test_no_demands(self):
        found = task([], {})
        self.assertEqual((found.demands, found.inputs, found.false_ones(EMPTY)), ((), (), ()))
        self.assertIs(found.stands(EMPTY), True)

    def test_equal_demands_count_separately(self):
        found = task(["Low(2) by 2", "Low(2) by 2"], {})
        self.assertEqual((len(found.demands), found.false_ones(EMPTY)), (2, (1, 2)))

    def test_what_is_changed_afterwards(self):
        inputs = {"x": 2}
        rows = ["Low(x) by 2"]
        found = task(rows, inputs)
        inputs["x"] = 9
        inputs["y"] = 1
        rows[0] = "Zero by 1"
        rows.append("Zero by 1")
        self.assertEqual((found.inputs, [demand.text for demand in found.demands]), ((("x", 2),), ["Low(x) by 2"]))
        self.assertEqual(found.false_ones(EMPTY), (1,))

    def test_a_world_for_an_equal_book(self):
        world = World.read(Book.read(BOOK.text), WORLD.text)
        self.assertEqual(len(task(ROWS, {"x": 2, "y": 0}, world).demands), 4)


class TruthTest(PackageTest):

    def test_false_demands(self):
        found = task(ROWS, {"x": 2, "y": 0})
        # f(0) = 9 <= 2 is false and f(2) = 2 <= 2 is true; R(0) is false at both sides; Low(1) and Low(0) are 0.
        self.assertEqual(found.false_ones(EMPTY), (1,))
        self.assertEqual(found.false_ones(Guesses([("Low", (2,), 2)])), ())
        self.assertEqual(found.false_ones(Guesses([("Low", (2,), 1)])), (1, 2))
        self.assertEqual(found.false_ones(Guesses([("Low", (2,), 2), ("Low", (1,), 1)])), (3,))
        self.assertIs(type(found.false_ones(EMPTY)), tuple)

    def test_guesses_that_are_not_right(self):
        found = task(ROWS, {"x": 2, "y": 0})
        wrong = Guesses([("Low", (2,), 99999), ("Neu", (1, 2), 3), ("Low", (9,), 7)])
        self.assertEqual(found.false_ones(wrong), (1, 2))
        self.assertEqual(found.false_ones(Guesses([("Low", (2,), 2), ("Neu", (1,), 3), ("Zero", (1,), 1)])), ())

    def test_standing(self):
        found = task(ROWS, {"x": 2, "y": 0})
        self.assertIs(found.stands(EMPTY), False)
        self.assertIs(found.stands(Guesses([("Low", (2,), 2)])), True)
        self.assertIs(task(ROWS, {"x": 9, "y": 0}).stands(EMPTY), True)


class ErrorsTest(PackageTest):

    def test_each_error(self):
        other = World.read(Book.read("fun f 1\nrel R 1"), WORLD.text)
        self.refuses(WrongBook, {}, task, ROWS, {"x": 1, "y": 1}, other)
        for name, number in (("X", 0), ("y0", 0), ("not", 3), ("", 0), ("v", 100)):
            self.refuses(BadInput, {"name": name}, task, ROWS, {"x": 1, "y": 99, name: number})
        for row in ("", "Low(x)", "x by 3", "Low by 3", "Neu by 3", "Low(y1) by 3", "Low(x) by g(x)", "Low(x) by 99 + 1",
                    "Low(x) by 3\n", "Zero by 3" + " " * 1000):
            self.refuses(BadDemand, {"row": 2}, task, ["Low(x) by 2", row, row], {"x": 1, "y": 1})
        self.refuses(MissingInput, {"name": "x"}, task, ROWS, {})
        self.refuses(MissingInput, {"name": "y"}, task, ROWS, {"x": 1})

    def test_the_first_missing_name(self):
        rows = ["Zero by 1", "Low(f(b)) by f(a)", "Low(c) by d"]
        for given, name in (("", "b"), ("b", "a"), ("ab", "c"), ("abc", "d"), ("acd", "b")):
            self.refuses(MissingInput, {"name": name}, task, rows, {word: 1 for word in given})
        self.assertEqual(len(task(rows, {word: 1 for word in "abcd"}).demands), 3)

    def test_many_demands(self):
        self.assertEqual(len(task(["Zero by 1"] * 60, {}).demands), 60)
        self.refuses(TooLarge, {}, task, ["Zero by 1"] * 61, {})

    def test_many_choice_terms(self):
        self.assertEqual(len(task([f"Low({number}) by 1" for number in range(40)], {}).demands), 40)
        self.refuses(TooWide, {}, task, [f"Low({number}) by 1" for number in range(41)], {})
        book = Book.read("pick Ca 1: y0 = p1\npick Cb 1: Ca(y0) = p1")
        world = World.read(book, "top 0")
        # Each row has the choice terms Cb(n) and, in its formula alone, Ca(n) and Ca(Cb(n)).
        rows = [f"Cb({number}) by {number}" for number in range(14)]
        self.assertEqual(len(task(rows[:13] + ["Ca(99) by 1"], {}, world, book).demands), 14)
        self.refuses(TooWide, {}, task, rows, {}, world, book)
        by_terms = ["Ca(0) by " + "Ca(" * 19 + "0" + ")" * 19, "Ca(1) by " + "Ca(" * 19 + "1" + ")" * 19]
        self.assertEqual(len(task(by_terms + ["Ca(2) by 0", "Ca(3) by 0"], {}, world, book).demands), 4)
        self.refuses(TooWide, {}, task, by_terms + ["Ca(2) by 0", "Ca(3) by 0", "Ca(4) by 0"], {}, world, book)

    def test_the_order_of_the_errors(self):
        other = World.read(Book.read("fun f 1\nrel R 1"), WORLD.text)
        wide = [f"Low({number}) by u" for number in range(41)]
        self.refuses(WrongBook, {}, task, ["x"] * 61, {"X": 1}, other)
        self.refuses(BadInput, {"name": "X"}, task, ["x"] * 61, {"X": 1})
        self.refuses(TooLarge, {}, task, ["x"] * 61, {})
        self.refuses(BadDemand, {"row": 42}, task, wide + ["x"], {})
        self.refuses(MissingInput, {"name": "u"}, task, wide, {})
        self.refuses(TooWide, {}, task, wide, {"u": 1})


if __name__ == "__main__":
    unittest.main()

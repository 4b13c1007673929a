"""Points 23 to 25: right entries, open demands, corrections."""

import unittest

from support import PackageTest

from rightatlast.books import Book
from rightatlast.corrections import corrected, correction, open_demands, wrong_entry
from rightatlast.errors import NotOpen, NotRight, TooLarge
from rightatlast.guesses import Guesses
from rightatlast.tasks import Task
from rightatlast.worlds import World

BOOK = Book.read("fun f 1\nrel R 2\npick Low 1: f(y0) <= p1\npick Any 0: y0 = y0\npick Ge 2: R(p1, y0)\n"
                 "pick Up 1: Low(p1) <= y0\npick Top 0: Any <= y0\npick Big 1: p1 <= y0")
WORLD = World.read(BOOK, "top 3\nf 9 7 2 5\nR 0 0 1 1 0 1 0 0 0 0 0 0 1 1 1 1")
EMPTY = Guesses([])


def guesses(*rows):
    """The guesses of some rows."""
    return Guesses.read("\n".join(rows))


def task(*rows, **inputs):
    """The task with these demands and inputs."""
    return Task(BOOK, WORLD, inputs, list(rows))


class WrongEntryTest(PackageTest):

    def test_right_entries(self):
        self.assertIsNone(wrong_entry(WORLD, EMPTY))
        for row in ("Low(2) = 2", "Low(4) = 2", "Low(7) = 1", "Low(99999) = 0", "Low(8) = 1", "Any = 0", "Ge(0, 5) = 2",
                    "Ge(1, 0) = 1", "Ge(3, 0) = 0", "Ge(99999, 99999) = 0", "Big(7) = 7"):
            self.assertIsNone(wrong_entry(WORLD, guesses(row)), row)

    def test_wrong_ground_entries(self):
        for row, key in [("Low(2) = 3", ("Low", (2,))), ("Low(2) = 1", ("Low", (2,))), ("Low(1) = 0", ("Low", (1,))),
                         ("Low(7) = 2", ("Low", (7,))), ("Any = 1", ("Any", ())), ("Ge(2, 0) = 0", ("Ge", (2, 0))),
                         ("Ge(0, 0) = 3", ("Ge", (0, 0))), ("Big(7) = 8", ("Big", (7,))),
                         ("Big(7) = 6", ("Big", (7,)))]:
            self.assertEqual(wrong_entry(WORLD, guesses(row)), key)

    def test_upper_entries(self):
        self.assertIsNone(wrong_entry(WORLD, guesses("Up(4) = 0")))
        self.assertIsNone(wrong_entry(WORLD, guesses("Up(4) = 7")))
        self.assertEqual(wrong_entry(WORLD, guesses("Low(4) = 2", "Up(4) = 1")), ("Up", (4,)))
        self.assertIsNone(wrong_entry(WORLD, guesses("Low(4) = 2", "Up(4) = 2")))
        self.assertIsNone(wrong_entry(WORLD, guesses("Low(4) = 2", "Up(4) = 9", "Up(5) = 0", "Top = 3")))

    def test_an_upper_entry_with_a_wrong_ground_one(self):
        self.assertEqual(wrong_entry(WORLD, guesses("Any = 5", "Top = 3")), ("Any", ()))
        self.assertEqual(wrong_entry(WORLD, guesses("Top = 3", "Up(4) = 0", "Zz = 1")), ("Zz", ()))

    def test_undeclared_choices_and_other_counts(self):
        for row, key in [("Neu = 0", ("Neu", ())), ("Low = 0", ("Low", ())), ("Any(0) = 0", ("Any", (0,))),
                         ("Low(2, 2) = 2", ("Low", (2, 2))), ("Up = 0", ("Up", ())),
                         ("Up(1, 1) = 5", ("Up", (1, 1)))]:
            self.assertEqual(wrong_entry(WORLD, guesses(row)), key)

    def test_the_first_in_the_order_of_the_rows(self):
        self.assertEqual(wrong_entry(WORLD, guesses("Low(2) = 3", "Any = 1", "Big(10) = 9", "Big(9) = 3")),
                         ("Any", ()))
        self.assertEqual(wrong_entry(WORLD, guesses("Low(2) = 3", "Any = 0", "Big(10) = 9", "Big(9) = 3")),
                         ("Big", (9,)))

    def test_many_entries(self):
        zeros = [("Low", (number,), 0) for number in range(9, 2010)]
        self.assertIsNone(wrong_entry(WORLD, Guesses(zeros[:2000])))
        self.refuses(TooLarge, {}, wrong_entry, WORLD, Guesses(zeros))
        self.refuses(TooLarge, {}, wrong_entry, WORLD, Guesses([("Neu", (), 0)] + zeros))

    def test_sums(self):
        self.assertIsNone(wrong_entry(WORLD, guesses("Big(19999) = 19999")))
        self.refuses(TooLarge, {}, wrong_entry, WORLD, guesses("Big(20000) = 20000"))
        self.assertIsNone(wrong_entry(WORLD, guesses("Big(9000) = 9000", "Big(10998) = 10998")))
        self.refuses(TooLarge, {}, wrong_entry, WORLD, guesses("Big(9000) = 9000", "Big(10999) = 10999"))
        self.assertIsNone(wrong_entry(WORLD, guesses("Up(0) = 19999")))
        self.refuses(TooLarge, {}, wrong_entry, WORLD, guesses("Up(0) = 20000"))
        self.refuses(TooLarge, {}, wrong_entry, WORLD, guesses("Neu = 20000"))
        self.assertEqual(wrong_entry(WORLD, guesses("Neu(99999, 99999) = 1")), ("Neu", (99999, 99999)))


class OpenDemandsTest(PackageTest):

    def test_all_false_ground_demands(self):
        found = task("Top by 1", "Low(x) by 2", "Ge(0, 0) by 3", "Low(9) by 1", "Up(4) by 2", x=2)
        self.assertEqual(open_demands(found, EMPTY), (2, 3))
        self.assertEqual(open_demands(found, guesses("Low(2) = 2")), (3,))
        self.assertIs(type(open_demands(found, EMPTY)), tuple)

    def test_the_first_false_upper_demand_alone(self):
        found = task("Top by 9", "Up(2) by 0", "Up(2) by 2", "Up(3) by 5", "Low(2) by 2")
        ground = guesses("Low(2) = 2", "Low(3) = 2")
        self.assertEqual(found.false_ones(ground), (3, 4))
        self.assertEqual(open_demands(found, ground), (3,))
        self.assertEqual(open_demands(found, guesses("Low(2) = 2", "Low(3) = 2", "Up(2) = 2")), (4,))
        self.assertEqual(open_demands(found, guesses("Low(3) = 2")), (5,))

    def test_none(self):
        self.assertEqual(open_demands(task("Low(9) by 0", "Top by 0"), EMPTY), ())
        self.assertEqual(open_demands(task(), EMPTY), ())

    def test_guesses_that_are_not_right(self):
        self.assertEqual(open_demands(task("Low(2) by 2"), guesses("Low(2) = 3", "Neu = 1")), (1,))
        many = Guesses([("Neu", (number,), 99999) for number in range(5000)])
        self.assertEqual(open_demands(task("Low(2) by 2"), many), (1,))


class CorrectionTest(PackageTest):

    def test_the_least_number_that_fits(self):
        found = task("Low(x) by 3", "Ge(0, x) by 3", "Big(x) by x + 9", x=7)
        self.assertEqual(correction(found, EMPTY, 1), (1, "Low", (7,), 1))
        self.assertEqual(correction(found, EMPTY, 2), (2, "Ge", (0, 7), 2))
        self.assertEqual(correction(found, EMPTY, 3), (3, "Big", (7,), 7))
        self.assertEqual(corrected(found, EMPTY, 1).text, "Low(7) = 1")

    def test_the_value_of_the_by_term_at_an_upper_choice(self):
        found = task("Up(2) by f(3)", "Low(2) by 2")
        ground = guesses("Low(2) = 2")
        self.assertEqual(correction(found, ground, 1), (1, "Up", (2,), 5))
        self.assertEqual(corrected(found, ground, 1).text, "Low(2) = 2\nUp(2) = 5")

    def test_keys_are_values(self):
        found = task("Ge(Low(2), Big(x) + 1) by f(2)", x=3)
        before = guesses("Low(2) = 2", "Big(3) = 3")
        self.assertEqual(open_demands(found, before), ())
        found = task("Ge(Low(9), Big(x) + 1) by f(1)", x=3)
        self.assertEqual(correction(found, guesses("Big(3) = 3"), 1), (1, "Ge", (0, 4), 2))

    def test_entries_of_upper_choices_are_removed_behind_a_ground_one(self):
        found = task("Low(2) by 2", "Ge(0, 0) by 3", "Up(4) by 2")
        before = guesses("Low(4) = 2", "Top = 3", "Up(4) = 5", "Up(0) = 1", "Any = 0")
        self.assertEqual(corrected(found, before, 2).text, "Any = 0\nGe(0, 0) = 2\nLow(4) = 2")
        self.assertEqual(before.text, "Any = 0\nLow(4) = 2\nTop = 3\nUp(0) = 1\nUp(4) = 5")

    def test_entries_of_upper_choices_stay_behind_an_upper_one(self):
        found = task("Up(2) by 3")
        before = guesses("Low(2) = 2", "Top = 3", "Up(0) = 1")
        self.assertEqual(corrected(found, before, 1).text, "Low(2) = 2\nTop = 3\nUp(0) = 1\nUp(2) = 3")

    def test_what_follows_is_right(self):
        found = task("Up(Low(x)) by f(Big(x))", "Low(x) by Ge(0, x)", "Ge(0, x) by 3", "Big(x) by 8", "Top by 9", x=2)
        now = EMPTY
        steps = 0
        while not found.stands(now):
            number = open_demands(found, now)[-1]
            step = correction(found, now, number)
            now = corrected(found, now, number)
            self.assertEqual((step[0], now.at(step[1], step[2])), (number, step[3]))
            self.assertTrue(now.has(step[1], step[2]))
            self.assertIsNone(wrong_entry(WORLD, now))
            steps += 1
        self.assertEqual((steps, now.text), (4, "Big(2) = 2\nGe(0, 2) = 2\nLow(2) = 2\nUp(2) = 2"))

    def test_the_tower_of_three(self):
        book = Book.read("fun both 2\npick Ca 0: y0 = 1\npick Cb 1: y0 = 1\npick Cc 2: y0 = 1")
        rows = ["Ca by both(Cb(Ca), Cc(Ca, Cb(Ca)))", "Cb(Ca) by Cc(Ca, Cb(Ca))", "Cc(Ca, Cb(Ca)) by 1"]
        tower = Task(book, World.read(book, "top 1\nboth 0 0 0 1"), {}, rows)
        now = EMPTY
        steps = []
        while not tower.stands(now):
            self.assertEqual(len(open_demands(tower, now)), 1)
            steps.append(correction(tower, now, open_demands(tower, now)[0]))
            now = corrected(tower, now, steps[-1][0])
        self.assertEqual(steps, [(3, "Cc", (0, 0), 1), (2, "Cb", (0,), 1), (3, "Cc", (0, 1), 1), (1, "Ca", (), 1),
                                 (3, "Cc", (1, 0), 1), (2, "Cb", (1,), 1), (3, "Cc", (1, 1), 1)])


class ErrorsTest(PackageTest):

    def both(self, kind, fields, found, before, number):
        for call in (correction, corrected):
            self.refuses(kind, fields, call, found, before, number)

    def test_too_large(self):
        zeros = [("Low", (number,), 0) for number in range(9, 2010)]
        self.both(TooLarge, {}, task("Low(2) by 2"), Guesses(zeros), 1)
        self.both(TooLarge, {}, task("Low(2) by 2"), guesses("Big(20000) = 20000"), 1)
        self.assertEqual(len(corrected(task("Low(2) by 2"), Guesses(zeros[:2000]), 1)), 2001)

    def test_not_right(self):
        self.both(NotRight, {"name": "Low", "numbers": (3,)}, task("Low(2) by 2"), guesses("Low(3) = 1"), 1)
        self.both(NotRight, {"name": "Neu", "numbers": ()}, task("Low(2) by 2"), guesses("Neu = 0", "Up(1, 1) = 1"), 1)

    def test_not_open(self):
        found = task("Low(9) by 0", "Low(2) by 2", "Up(4) by 2", "Low(3) by 1", "Up(2) by 2", "Up(3) by 9")
        for number in (0, 1, 3, 4, 5, 6, 7, 60, 999999):
            self.both(NotOpen, {"demand": number}, found, guesses("Low(4) = 2"), number)
        self.assertEqual(correction(found, guesses("Low(4) = 2"), 2), (2, "Low", (2,), 2))
        self.both(NotOpen, {"demand": 6}, found, guesses("Low(2) = 2", "Low(3) = 2"), 6)
        self.assertEqual(correction(found, guesses("Low(2) = 2", "Low(3) = 2"), 5), (5, "Up", (2,), 2))

    def test_the_order_of_the_errors(self):
        found = task("Low(2) by 2")
        self.both(TooLarge, {}, found, guesses("Any = 1", "Neu = 20000"), 7)
        self.both(NotRight, {"name": "Any", "numbers": ()}, found, guesses("Any = 1"), 7)
        self.both(NotOpen, {"demand": 7}, found, guesses("Any = 0"), 7)


if __name__ == "__main__":
    unittest.main()

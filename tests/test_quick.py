"""Point 31: the quick climb."""

import unittest

from samples import SlowClimb, long_task, some_picks, some_task
from support import PackageTest

from rightatlast.books import Book
from rightatlast.climbing import Climb, climb
from rightatlast.errors import NotRight, TooLarge, Unfinished
from rightatlast.guesses import Guesses
from rightatlast.quick import quick_climb
from rightatlast.tasks import Task
from rightatlast.worlds import World

BOOK = Book.read("pick Eq 1: y0 = p1\npick Up 1: (Eq(y0) + 1 <= y0 and p1 = p1)")
WORLD = World.read(BOOK, "top 0")


def task(*rows):
    """The task with these demands."""
    return Task(BOOK, WORLD, {"x": 3}, list(rows))


class LooksTest(PackageTest):

    def test_one_storey(self):
        # At the beginning three looks. The entry at Eq(3) is read by 1 alone, and that at Eq(4) by 2 and 3.
        found = task("Eq(x) by 3", "Eq(4) by 4", "Eq(7) by Eq(4)")
        end = quick_climb(found)
        self.assertEqual(end.journal.text, "1: Eq(3) = 3\n2: Eq(4) = 4")
        self.assertEqual((end.looks, climb(found).looks), (3 + 1 + 2, 3 * 3))

    def test_keys_are_those_of_the_last_look(self):
        # Demand 2 reads Eq(0) first, and Eq(3) once Eq(3) has been entered; then Eq(0) does not concern it any more.
        found = task("Eq(3) by 3", "Eq(Eq(3)) by 1", "Eq(Eq(4)) by 4", "Eq(4) by 4")
        end = quick_climb(found)
        # Looks: 4; behind Eq(3) = 3: 1, 2; behind Eq(4) = 4, which demand 3 reads as a part: 3, 4.
        self.assertEqual(end.journal.text, "1: Eq(3) = 3\n4: Eq(4) = 4")
        self.assertEqual(end.looks, 4 + 2 + 2)

    def test_the_key_of_a_correction_and_no_other_one(self):
        found = task("Eq(3) by 3", "Eq(4) by Eq(3)")
        self.assertEqual(quick_climb(found).looks, 2 + 2)
        found = task("Eq(3) by 3", "Eq(4) by Eq(5)")
        self.assertEqual(quick_climb(found).looks, 2 + 1)

    def test_two_storeys(self):
        # Looks at the beginning: 4. Behind Up(0) = 6: 1, 2, 4. Behind Eq(6) = 6, which demands 1 and 2 read, and which
        # removes Up(0): 1, 2, 4. Behind Up(0) = 8: 1, 2, 4.
        found = task("Up(0) by 6", "Eq(Up(0)) by 6", "Eq(9) by 0", "Up(0) by 8")
        end = quick_climb(found)
        self.assertEqual(end.journal.text, "1: Up(0) = 6\n2: Eq(6) = 6\n4: Up(0) = 8")
        self.assertEqual(end.looks, 4 + 3 + 3 + 3)

    def test_a_removed_key_that_the_correction_does_not_read(self):
        # Demand 3 reads Up(0) and Eq(7). Behind Eq(6) = 6 it is looked at because Up(0) has lost its entry.
        found = task("Up(0) by 6", "Eq(Up(0)) by 6", "Eq(Up(0) + 1) by 3", "Eq(8) by 3")
        end = quick_climb(found)
        self.assertEqual(end.journal.text, "1: Up(0) = 6\n2: Eq(6) = 6")
        self.assertEqual(end.looks, 4 + 3 + 3)
        self.assertEqual(end.looks, SlowClimb(found, (), 100).quick_looks)

    def test_no_demands_and_no_corrections(self):
        self.assertEqual(quick_climb(task()).looks, 0)
        self.assertEqual(quick_climb(task("Eq(9) by 0"), limit=0).looks, 1)


class SameTest(PackageTest):

    def test_all_climbs(self):
        saved = 0
        for seed in range(150):
            found = some_task(seed, seed % 2 == 0)
            picks = some_picks(seed)
            plain = climb(found, picks=picks)
            quick = quick_climb(found, picks=picks)
            slow = SlowClimb(found, picks, 1000)
            self.assertIsInstance(quick, Climb)
            self.assertEqual((quick.task, quick.start), (found, plain.start))
            self.assertEqual((quick.journal, quick.guesses), (plain.journal, plain.guesses))
            self.assertEqual((quick.looks, plain.looks), (slow.quick_looks, slow.looks))
            saved += quick.looks < plain.looks
        self.assertGreater(saved, 50)

    def test_a_start(self):
        found = task("Eq(x) by 3", "Eq(4) by 4", "Eq(7) by Eq(4)", "Up(2) by 5")
        start = Guesses.read("Eq(4) = 4\nUp(2) = 99999\nEq(88) = 88")
        quick = quick_climb(found, start=start, picks=(3, 1))
        plain = climb(found, start=start, picks=(3, 1))
        self.assertEqual((quick.start.text, quick.guesses, quick.journal),
                         ("Eq(4) = 4\nEq(88) = 88", plain.guesses, plain.journal))
        self.assertEqual((quick.looks, plain.looks), (4 + 1 + 1, 4 * 3))
        self.assertEqual(start.text, "Eq(4) = 4\nEq(88) = 88\nUp(2) = 99999")

    def test_errors(self):
        found = task("Eq(x) by 3", "Eq(4) by 4")
        wrong = Guesses.read("Eq(3) = 2")
        self.refuses(TooLarge, {}, quick_climb, found, picks=(0,) * 61, start=wrong)
        self.refuses(TooLarge, {}, quick_climb, found, picks=(1000000,), start=wrong)
        self.refuses(NotRight, {"name": "Eq", "numbers": (3,)}, quick_climb, found, start=wrong, limit=2001)
        self.refuses(TooLarge, {}, quick_climb, found, start=Guesses([("Eq", (20000,), 20000)]), limit=2001)
        self.refuses(TooLarge, {}, quick_climb, found, limit=2001)
        for limit in (0, 1):
            journal = quick_climb(task("Eq(x) by 3"), limit=2).journal if limit == 1 else quick_climb(task()).journal
            self.refuses(Unfinished, {"journal": journal}, quick_climb, found, limit=limit)
        self.assertEqual(len(quick_climb(found, limit=2).journal), 2)

    def test_a_long_climb(self):
        self.refuses(Unfinished, {}, quick_climb, long_task(), limit=2000)


if __name__ == "__main__":
    unittest.main()

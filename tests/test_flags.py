"""Points 22, 27 and 28: the list of a task, flags, storeys, the bound."""

import unittest

from samples import some_picks, some_task
from support import PackageTest

from rightatlast.books import Book
from rightatlast.climbing import climb
from rightatlast.errors import TooWide
from rightatlast.flags import bound, choice_list, flags, storeys
from rightatlast.guesses import Guesses
from rightatlast.tasks import Task
from rightatlast.tower import tower
from rightatlast.worlds import World

BOOK = Book.read("fun f 1\npick Low 1: f(y0) <= p1\npick Eq 2: y0 = p1\npick Up 1: Eq(y0, p1) = p1\npick Uq 0: Eq(0, y0) = 0")
WORLD = World.read(BOOK, "top 3\nf 9 7 2 5")


def task(*rows, **inputs):
    """The task with these demands and inputs."""
    return Task(BOOK, WORLD, inputs, list(rows))


def texts(found):
    """The texts of the list of a task."""
    return [term.text for term in choice_list(found)]


class ListTest(PackageTest):

    def test_pieces_stand_ahead_of_wholes(self):
        found = task("Low(Eq(Low(x), f(Low(1)))) by Eq(2, Low(x))", x=3)
        self.assertEqual(texts(found), ["Low(x)", "Low(1)", "Eq(Low(x), f(Low(1)))", "Low(Eq(Low(x), f(Low(1))))",
                                        "Eq(2, Low(x))"])
        self.assertIs(type(choice_list(found)), tuple)

    def test_head_then_by_term_then_formula(self):
        # The formula of the first demand is `(Eq(Low(2), 1) = 1 -> Eq(Up(1), 1) = 1)`.
        found = task("Up(1) by Low(2)", "Low(9) by Uq", "Low(2) by Up(1)")
        self.assertEqual(texts(found), ["Up(1)", "Low(2)", "Eq(Low(2), 1)", "Eq(Up(1), 1)", "Low(9)", "Uq"])

    def test_each_term_once(self):
        found = task("Low(x) by x", "Low(x) by 3", "Eq(Low(x), Low(x)) by Low(x)", x=0)
        self.assertEqual(texts(found), ["Low(x)", "Eq(Low(x), Low(x))"])

    def test_no_choice_terms(self):
        self.assertEqual(choice_list(task()), ())


class FlagsTest(PackageTest):

    def test_entries_at_the_values_of_the_parts(self):
        found = task("Low(x) by 2", "Eq(Low(x), f(x)) by Low(f(1) + 2)", "Eq(2, 2) by 2", x=2)
        self.assertEqual(texts(found), ["Low(x)", "Eq(Low(x), f(x))", "Low(f(1) + 2)", "Eq(2, 2)"])
        self.assertEqual(flags(found, Guesses([])), "0000")
        self.assertEqual(flags(found, Guesses.read("Low(2) = 2")), "1000")
        self.assertEqual(flags(found, Guesses.read("Low(2) = 2\nEq(2, 2) = 2")), "1101")
        self.assertEqual(flags(found, Guesses.read("Eq(2, 2) = 2\nEq(0, 2) = 0")), "0101")
        self.assertEqual(flags(found, Guesses.read("Low(9) = 0\nEq(0, 2) = 9")), "0110")
        self.assertEqual(flags(found, Guesses.read("Low = 2\nLow(2, 2) = 1\nEq(2, 3) = 1\nNeu(2) = 1")), "0000")

    def test_an_entry_with_the_guess_0_counts(self):
        self.assertEqual(flags(task("Low(9) by 2"), Guesses.read("Low(9) = 0")), "1")

    def test_values_that_no_key_can_have(self):
        found = task("Low(Low(0) + 9) by 2")
        self.assertEqual(flags(found, Guesses.read("Low(0) = 99999\nLow(99999) = 0")), "10")

    def test_no_flags(self):
        self.assertEqual(flags(task(), Guesses.read("Low(0) = 1")), "")

    def test_the_first_flag_that_changes_rises(self):
        changed = 0
        for seed in range(120):
            found = some_task(seed, False)
            now = Guesses([])
            before = flags(found, now)
            for step in climb(found, picks=some_picks(seed)).journal.steps:
                now = now.added(*step[1:])
                after = flags(found, now)
                pairs = [(old, new) for old, new in zip(before, after) if old != new]
                self.assertEqual(pairs[0], ("0", "1"))
                changed += len(pairs) > 1
                before = after
        self.assertGreater(changed, 10)


class BoundTest(PackageTest):

    def test_storeys(self):
        self.assertEqual(storeys(task("Low(x) by x", "Eq(Low(x), 1) by 3", x=1)), (2, 0))
        # The upper ones are Up(1) and Uq; the ground ones Low(2), Eq(Low(2), 1), Eq(Up(1), 1), Low(9).
        self.assertEqual(storeys(task("Up(1) by Low(2)", "Low(9) by Uq")), (4, 2))
        self.assertEqual(storeys(task()), (0, 0))

    def test_ground_tasks(self):
        self.assertEqual(bound(task()), 0)
        self.assertEqual(bound(task("Low(x) by x", x=1)), 1)
        self.assertEqual(bound(task("Low(x) by x", "Eq(Low(x), 1) by 3", x=1)), 3)
        self.assertEqual(bound(tower(6)), 63)
        self.assertEqual(bound(task(*[f"Low({number}) by 1" for number in range(40)])), 2 ** 40 - 1)

    def test_upper_tasks(self):
        self.assertEqual(bound(task("Up(1) by Low(2)", "Low(9) by Uq")), 2 ** 18 - 1)
        self.assertEqual(bound(task("Up(1) by 1")), 2 ** (2 * 2 + 1) - 1)

    def test_exponents_near_400(self):
        book = Book.read("pick Low 1: y0 = 1\npick Up 1: (Low(0) = 0 and y0 = 1)")
        world = World.read(book, "top 0")

        def found(ground, upper):
            rows = [f"Low({number}) by 1" for number in range(ground)]
            return Task(book, world, {}, rows + [f"Up({number}) by 1" for number in range(upper)])

        self.assertEqual(storeys(found(12, 5)), (12, 5))
        self.assertEqual(bound(found(12, 5)), 2 ** 389 - 1)
        self.assertEqual(bound(found(24, 4)), 2 ** 388 - 1)
        # With at most 40 choice terms no exponent is 400: 391 is the greatest one below, 404 the smallest one above.
        exponents = [(a << b) + b for a in range(41) for b in range(41 - a)]
        self.assertEqual((max(one for one in exponents if one <= 400), min(one for one in exponents if one > 400)),
                         (391, 404))
        self.assertEqual(bound(found(3, 7)), 2 ** 391 - 1)
        self.refuses(TooWide, {}, bound, found(25, 4))
        self.refuses(TooWide, {}, bound, found(13, 5))
        self.refuses(TooWide, {}, bound, found(1, 39))

    def test_climbs_stay_within_the_bound(self):
        for seed in range(60):
            found = some_task(seed, seed % 2 == 0)
            try:
                most = bound(found)
            except TooWide:
                continue
            self.assertLessEqual(len(climb(found, picks=some_picks(seed)).journal), most)


if __name__ == "__main__":
    unittest.main()

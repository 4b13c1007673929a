"""Points 25, 26 and 31: the plain climb."""

import unittest

from samples import SlowClimb, long_task, some_picks, some_task
from support import PackageTest

from rightatlast.books import Book
from rightatlast.climbing import Climb, climb, climb_steps
from rightatlast.corrections import wrong_entry
from rightatlast.errors import NotRight, TooLarge, Unfinished
from rightatlast.flags import bound, flags
from rightatlast.guesses import Guesses
from rightatlast.journals import Journal, replayed
from rightatlast.tasks import Task
from rightatlast.tower import tower
from rightatlast.worlds import World

BOOK = Book.read("fun f 1\npick Low 1: f(y0) <= p1\npick Eq 1: y0 = p1\npick Any 0: y0 = y0\npick Up 1: Eq(y0) = p1\n"
                 "pick Top 0: Low(3) <= y0")
WORLD = World.read(BOOK, "top 3\nf 9 7 2 5")
ROWS = ["Low(x) by x", "Eq(3) by 3", "Up(Low(x)) by Low(x)", "Eq(Low(x)) by f(2)", "Low(7) by x", "Eq(9) by 4"]
TASK = Task(BOOK, WORLD, {"x": 2}, ROWS)
# At the beginning 1, 2 and 5 are open. 4 is open behind 1, and 3, an upper one, behind 1 and 4. 6 is never false.
FIRST = ((1, "Low", (2,), 2), (2, "Eq", (3,), 3), (4, "Eq", (2,), 2), (5, "Low", (7,), 1), (3, "Up", (2,), 2))
# The entry of Ub makes a ground demand false, and its correction makes the entry of Ub vanish.
UPPER_BOOK = Book.read("pick Eq 1: y0 = p1\npick Ua 0: Eq(y0) = y0\npick Ub 0: Eq(y0) + 1 <= y0")
UPPER_TASK = Task(UPPER_BOOK, World.read(UPPER_BOOK, "top 0"), {}, ["Ua by 3", "Ub by 5", "Eq(Ub) by 5", "Ub by 7"])
UPPER_STEPS = ((2, "Ub", (), 5), (3, "Eq", (5,), 5), (4, "Ub", (), 7))


def journal_of(task, **passed):
    """The steps of a climb."""
    return climb(task, **passed).journal.steps


class ExampleTest(PackageTest):

    def test_the_example_of_the_document(self):
        task = tower(2)
        self.assertEqual([demand.text for demand in task.demands], ["Ca by Cb(Ca)", "Cb(Ca) by 1"])
        end = climb(task, picks=(7, 1))
        self.assertEqual(end.journal.steps, ((2, "Cb", (0,), 1), (1, "Ca", (), 1), (2, "Cb", (1,), 1)))
        self.assertEqual((end.guesses.text, flags(task, end.guesses), bound(task), end.looks),
                         ("Ca = 1\nCb(0) = 1\nCb(1) = 1", "11", 3, 8))

    def test_the_fields(self):
        end = climb(TASK)
        self.assertIsInstance(end, Climb)
        self.assertIs(end.task, TASK)
        self.assertEqual((end.start, end.journal), (Guesses([]), Journal(list(FIRST))))
        self.assertEqual(end.guesses.text, "Eq(2) = 2\nEq(3) = 3\nLow(2) = 2\nLow(7) = 1\nUp(2) = 2")
        self.assertEqual(end.looks, 6 * 6)

    def test_a_task_that_stands_from_the_beginning(self):
        end = climb(Task(BOOK, WORLD, {}, ["Low(9) by 3"]), limit=0)
        self.assertEqual((end.guesses.text, end.journal.steps, end.looks), ("", (), 1))
        end = climb(Task(BOOK, WORLD, {}, []), limit=0)
        self.assertEqual((end.guesses.text, end.journal.steps, end.looks), ("", (), 0))


class PicksTest(PackageTest):

    def test_no_picks_take_the_first_open_demand(self):
        self.assertEqual(journal_of(TASK), FIRST)
        self.assertEqual(journal_of(TASK, picks=()), FIRST)
        self.assertEqual(journal_of(TASK, picks=(0,)), FIRST)

    def test_the_remainder_of_the_pick_by_the_number_of_open_demands(self):
        # Open at the beginning: 1, 2, 5. Pick 8 takes the index 2, so demand 5.
        self.assertEqual(journal_of(TASK, picks=(8,))[0], (5, "Low", (7,), 1))
        self.assertEqual(journal_of(TASK, picks=(7,))[0], (2, "Eq", (3,), 3))
        self.assertEqual(journal_of(TASK, picks=(999999,))[0], (1, "Low", (2,), 2))
        self.assertEqual(journal_of(TASK, picks=(999998,))[0], (5, "Low", (7,), 1))

    def test_picks_are_used_in_turn(self):
        # Open are 1, 2, 5; then 1, 2; then 1; then 4; then 3.
        self.assertEqual([step[0] for step in journal_of(TASK, picks=(2, 1))], [5, 2, 1, 4, 3])
        # Open are 1, 2, 5; then 1, 5; then 4, 5; then 4; then 3.
        self.assertEqual([step[0] for step in journal_of(TASK, picks=(1, 0, 3))], [2, 1, 5, 4, 3])
        # Open are 1, 2, 5; then 1, 5; then 1; then 4; then 3.
        self.assertEqual([step[0] for step in journal_of(TASK, picks=(1, 5))], [2, 5, 1, 4, 3])

    def test_upper_demands_are_taken_one_after_another(self):
        self.assertEqual(journal_of(UPPER_TASK), UPPER_STEPS)
        self.assertEqual(journal_of(UPPER_TASK, picks=(5, 3)), UPPER_STEPS)
        self.assertEqual(climb(UPPER_TASK).guesses.text, "Eq(5) = 5\nUb = 7")

    def test_how_many_picks_and_how_large(self):
        self.assertEqual(journal_of(TASK, picks=(0,) * 60), FIRST)
        for picks in ((0,) * 61, (1000000,), (0,) * 59 + (1000000,), (10 ** 3999,)):
            self.refuses(TooLarge, {}, climb, TASK, picks=picks)
        self.assertEqual(len(journal_of(TASK, picks=(999999,) * 60)), 5)


class StartTest(PackageTest):

    def test_from_right_guesses(self):
        start = Guesses.read("Eq(3) = 3\nLow(2) = 2\nEq(77) = 77")
        end = climb(TASK, start=start)
        self.assertEqual(end.start, start)
        self.assertEqual(end.journal.steps, ((4, "Eq", (2,), 2), (5, "Low", (7,), 1), (3, "Up", (2,), 2)))
        self.assertEqual(end.guesses.text, "Eq(2) = 2\nEq(3) = 3\nEq(77) = 77\nLow(2) = 2\nLow(7) = 1\nUp(2) = 2")
        self.assertEqual(end.looks, 6 * 4)

    def test_from_no_guesses(self):
        self.assertEqual(climb(TASK, start=Guesses([])).journal.steps, FIRST)
        self.assertEqual(climb(TASK, start=None).start, Guesses([]))

    def test_entries_of_upper_choices_are_removed_first(self):
        start = Guesses.read("Eq(3) = 3\nUp(9) = 99999\nUp = 7\nTop(1, 2) = 0\nTop = 0")
        end = climb(TASK, start=start)
        self.assertEqual(end.start.text, "Eq(3) = 3")
        self.assertEqual(end.journal.steps, (FIRST[0],) + FIRST[2:])
        self.assertEqual(start.text, "Eq(3) = 3\nTop = 0\nTop(1, 2) = 0\nUp = 7\nUp(9) = 99999")
        many = Guesses([("Up", (number,), 99999) for number in range(5000)])
        self.assertEqual(climb(TASK, start=many).journal.steps, FIRST)

    def test_also_if_the_task_stands(self):
        found = Task(UPPER_BOOK, UPPER_TASK.world, {}, ["Ub by 5"])
        start = Guesses.read("Ub = 7")
        self.assertTrue(found.stands(start))
        self.assertEqual(climb(found, start=start).guesses.text, "Ub = 5")

    def test_what_remains_must_be_right(self):
        for text, name, numbers in (("Eq(3) = 2", "Eq", (3,)), ("Low(2) = 3", "Low", (2,)), ("Neu = 0", "Neu", ()),
                                    ("Eq = 0", "Eq", ()), ("Low(2) = 1\nEq(4) = 4", "Low", (2,)),
                                    ("Up(1) = 0\nLow(2) = 1\nEq(4) = 5", "Eq", (4,))):
            self.refuses(NotRight, {"name": name, "numbers": numbers}, climb, TASK, start=Guesses.read(text))

    def test_what_remains_is_counted(self):
        zeros = [("Low", (number,), 0) for number in range(9, 2010)]
        uppers = [("Up", (number,), 99999) for number in range(500)]
        self.refuses(TooLarge, {}, climb, TASK, start=Guesses(zeros))
        self.refuses(TooLarge, {}, climb, TASK, start=Guesses([("Eq", (20000,), 20000)]))
        self.assertEqual(climb(TASK, start=Guesses(zeros[:2000] + uppers)).journal.steps, FIRST)
        self.assertEqual(climb(TASK, start=Guesses([("Eq", (19999,), 19999)] + uppers)).journal.steps, FIRST)

    def test_what_is_entered_is_not_counted(self):
        start = Guesses([("Low", (number,), 0) for number in range(9, 2009)])
        self.assertEqual(len(climb(TASK, start=start).guesses), 2005)
        book = Book.read("pick Big 1: p1 <= y0")
        rows = ["Big(0) by 0", "Big(Big(1) + 9) by Big(1) + 9"]
        task = Task(book, World.read(book, "top 0"), {}, rows)
        end = climb(task, start=Guesses([("Big", (1,), 1), ("Big", (19990,), 19990)]))
        self.assertEqual(end.journal.steps, ((2, "Big", (10,), 10),))


class LimitTest(PackageTest):

    def test_limits(self):
        self.assertEqual(journal_of(TASK, limit=5), FIRST)
        self.assertEqual(journal_of(TASK, limit=2000), FIRST)
        for limit in range(5):
            self.refuses(Unfinished, {"journal": Journal(list(FIRST[:limit]))}, climb, TASK, limit=limit)
        for limit in (2001, 10 ** 3999):
            self.refuses(TooLarge, {}, climb, TASK, limit=limit)

    def test_2000_corrections(self):
        task = long_task()
        steps = list(climb_steps(task, limit=2000))
        self.assertEqual(len(steps), 2000)
        self.refuses(Unfinished, {"journal": Journal(steps)}, climb, task, limit=2000)
        self.refuses(Unfinished, {"journal": Journal(steps[:1000])}, climb, task)
        self.assertEqual(list(climb_steps(task)), steps[:1000])
        # The rest is climbed from what has been reached; the entries of Gate are made anew.
        reached = replayed(task, None, Journal(steps))
        rest = climb(task, start=reached)
        self.assertEqual(len([step for step in steps if step[1] != "Gate"]), 2000 // 34)
        self.assertEqual(len(rest.journal), 2175 - 2000 // 34 * 34)
        self.assertTrue(task.stands(rest.guesses))

    def test_the_order_of_the_errors(self):
        start = Guesses.read("Eq(3) = 2")
        large = Guesses([("Eq", (20000,), 3)] + [("Neu", (number,), 0) for number in range(2000)])
        for call in (climb, lambda *given, **passed: list(climb_steps(*given, **passed))):
            self.refuses(TooLarge, {}, call, TASK, picks=(0,) * 61, start=start, limit=0)
            self.refuses(NotRight, {"name": "Eq", "numbers": (3,)}, call, TASK, start=start, limit=2001)
            self.refuses(TooLarge, {}, call, TASK, start=large, limit=2001)
            self.refuses(TooLarge, {}, call, TASK, limit=2001)
        self.refuses(NotRight, {"name": "Eq", "numbers": (3,)}, climb, TASK, start=start, limit=0)


class StepsTest(PackageTest):

    def test_step_by_step(self):
        found = climb_steps(TASK, picks=(2, 1))
        self.assertEqual(next(found), (5, "Low", (7,), 1))
        self.assertEqual(next(found), (2, "Eq", (3,), 3))
        self.assertEqual([next(found), next(found)], [(1, "Low", (2,), 2), (4, "Eq", (2,), 2)])
        self.assertEqual(next(found), (3, "Up", (2,), 2))
        self.assertRaises(StopIteration, next, found)

    def test_it_ends_behind_the_limit(self):
        for limit in range(6):
            self.assertEqual(tuple(climb_steps(TASK, limit=limit)), FIRST[:limit])
        self.assertEqual(tuple(climb_steps(TASK, limit=2000)), FIRST)
        self.assertEqual(tuple(climb_steps(TASK)), FIRST)

    def test_a_start(self):
        start = Guesses.read("Eq(3) = 3\nUp(9) = 99999")
        self.assertEqual(tuple(climb_steps(TASK, start=start)), (FIRST[0],) + FIRST[2:])

    def test_errors_when_the_first_item_is_asked_for(self):
        for passed, kind, fields in (({"picks": (0,) * 61}, TooLarge, {}), ({"picks": (1000000,)}, TooLarge, {}),
                                     ({"limit": 2001}, TooLarge, {}),
                                     ({"start": Guesses.read("Neu = 0"), "limit": 0}, NotRight, {"name": "Neu"}),
                                     ({"start": Guesses([("Eq", (20000,), 20000)])}, TooLarge, {})):
            found = climb_steps(TASK, **passed)
            self.refuses(kind, fields, next, found)
        self.assertEqual(list(climb_steps(TASK, limit=0)), [])


class AllClimbsTest(PackageTest):

    def test_the_climb_that_follows_the_words(self):
        lengths = set()
        behind_upper_ones = 0
        for seed in range(150):
            task = some_task(seed, seed % 2 == 1)
            picks = some_picks(seed)
            slow = SlowClimb(task, picks, 200)
            self.assertTrue(slow.stands)
            end = climb(task, picks=picks, limit=200)
            self.assertEqual((end.journal.steps, end.guesses, end.looks), (tuple(slow.steps), slow.guesses, slow.looks))
            self.assertEqual(list(climb_steps(task, picks=picks)), slow.steps)
            self.assertTrue(task.stands(end.guesses))
            self.assertIsNone(wrong_entry(task.world, end.guesses))
            lengths.add(len(slow.steps))
            upper = [task.book.choice_of(step[1]).upper for step in slow.steps]
            behind_upper_ones += sum(1 for one, two in zip(upper, upper[1:]) if one and not two)
        self.assertGreater(len(lengths), 8)
        self.assertGreater(behind_upper_ones, 10)

    def test_nothing_that_is_passed_is_changed(self):
        start = Guesses.read("Eq(3) = 3\nUp(9) = 99999")
        picks = (2, 1)
        end = climb(TASK, picks=picks, start=start)
        list(climb_steps(TASK, picks=picks, start=start))
        self.assertEqual((start.text, picks, end.start.text), ("Eq(3) = 3\nUp(9) = 99999", (2, 1), "Eq(3) = 3"))
        self.assertEqual((TASK.inputs, [demand.text for demand in TASK.demands]), ((("x", 2),), ROWS))
        self.assertEqual((TASK.world.text, TASK.book.text), (WORLD.text, BOOK.text))


if __name__ == "__main__":
    unittest.main()

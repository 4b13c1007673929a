"""Points 29 and 30: journals, replaying, finished journals, phases."""

import unittest

from samples import SlowClimb, long_task, some_picks, some_task
from support import PackageTest

from rightatlast.books import Book
from rightatlast.climbing import climb, climb_steps
from rightatlast.errors import BadEntry, BadRow, NotRight, TooLarge, UnknownName, WrongStep
from rightatlast.guesses import Guesses
from rightatlast.journals import Journal, first_wrong_step, is_finished, phases, replayed
from rightatlast.tasks import Task
from rightatlast.worlds import World

STEPS = [(3, "Low", (2, 0), 5), (60, "Low", (), 99999), (1, "Abcdefgh", (99999,) * 6, 0), (3, "Low", (2, 0), 5)]
TEXT = ("3: Low(2, 0) = 5\n60: Low = 99999\n1: Abcdefgh(99999, 99999, 99999, 99999, 99999, 99999) = 0\n"
        "3: Low(2, 0) = 5")
BAD_STEPS = [(0, "Low", (), 0), (61, "Low", (), 0), (10 ** 3999, "Low", (), 0), (1, "low", (), 0), (1, "", (), 0),
             (1, "L", (), 0), (1, "LOW", (), 0), (1, "Abcdefghi", (), 0), (1, "Low", (0,) * 7, 0),
             (1, "Low", (100000,), 0), (1, "Low", (0, 0, 100000), 0), (1, "Low", (), 100000)]

BOOK = Book.read("pick Eq 1: y0 = p1\npick Ge 1: p1 <= y0\npick Up 1: (Eq(y0) + 1 <= y0 and p1 = p1)")
WORLD = World.read(BOOK, "top 0")
# 1 and 2 are open; behind 1 also 3; then 4, an upper one; its entry opens 5; behind 5 the entry is gone and 6 is open.
ROWS = ["Eq(1) by 1", "Ge(3) by 7", "Ge(Eq(1)) by Eq(1)", "Up(0) by 6", "Eq(Up(0)) by 6", "Up(0) by 8"]


class StepsTest(PackageTest):

    def test_steps_and_text(self):
        journal = Journal(STEPS)
        self.assertEqual((journal.steps, journal.text, len(journal)), (tuple(STEPS), TEXT, 4))
        self.reads_back(Journal.read, journal)
        self.assertEqual(Journal.read(TEXT).steps, tuple(STEPS))

    def test_no_steps(self):
        journal = Journal([])
        self.assertEqual((journal.steps, journal.text, len(journal)), ((), "", 0))
        self.assertEqual(Journal.read(""), journal)

    def test_equality(self):
        self.assertNotEqual(Journal(STEPS), Journal(STEPS[1:]))
        self.assertNotEqual(Journal(STEPS), Journal(STEPS[1:] + STEPS[:1] + STEPS[:1]))
        self.assertFalse(Journal(STEPS) == TEXT)
        self.assertFalse(Journal([]) == Guesses([]))

    def test_a_list_that_is_changed_afterwards(self):
        steps = list(STEPS)
        journal = Journal(steps)
        steps[0] = (1, "Up", (), 0)
        steps.append((1, "Up", (), 0))
        self.assertEqual((journal.steps, journal.text), (tuple(STEPS), TEXT))

    def test_bounds_of_the_fields(self):
        for step in BAD_STEPS:
            self.refuses(BadEntry, {"entry": 2}, Journal, [STEPS[0], step, step])
        for step in ((1, "Low", (), 0), (60, "Low", (), 0), (1, "Ab", (), 0), (1, "Abcdefgh", (), 0),
                     (1, "Low", (0,) * 6, 0), (1, "Low", (99999,), 0), (1, "Low", (), 99999)):
            self.assertEqual(Journal([step]).steps, (step,))
            self.assertEqual(Journal.read(Journal([step]).text).steps, (step,))

    def test_2000_and_2001_steps(self):
        self.assertEqual(len(Journal(STEPS * 500)), 2000)
        self.refuses(TooLarge, {}, Journal, STEPS * 500 + STEPS[:1])
        self.refuses(TooLarge, {}, Journal, BAD_STEPS[:1] * 2001)
        self.refuses(BadEntry, {"entry": 1}, Journal, BAD_STEPS[:1] * 2000)

    def test_2000_and_2001_rows(self):
        text = Journal(STEPS * 500).text
        self.assertEqual(len(Journal.read(text)), 2000)
        self.refuses(TooLarge, {}, Journal.read, text + "\n1: Low = 0")
        self.refuses(TooLarge, {}, Journal.read, text + "\n")
        self.refuses(TooLarge, {}, Journal.read, "\n" * 2000)
        self.refuses(BadRow, {"row": 1}, Journal.read, "\n" * 1999)

    def test_rows_of_another_form(self):
        for row in ["", " ", "1", "1:", "1: ", "Low = 1", ": Low = 1", "1:Low = 1", "1 : Low = 1", "1:  Low = 1",
                    " 1: Low = 1", "1: Low = 1 ", "01: Low = 1", "0: Low = 1", "61: Low = 1", "100: Low = 1",
                    "+1: Low = 1", "-1: Low = 1", "x: Low = 1", "1_0: Low = 1", "1: Low", "1: Low =", "1: Low = ",
                    "1: Low=1", "1: Low = 01", "1: Low = 100000", "1: Low = -1", "1: Low() = 1", "1: Low(1,2) = 1",
                    "1: Low(1,  2) = 1", "1: Low( 1) = 1", "1: Low(1 ) = 1", "1: Low (1) = 1", "1: Low(01) = 1",
                    "1: Low(100000) = 1", "1: Low(1, 2, 3, 4, 5, 6, 7) = 1", "1: low = 1", "1: LOW = 1", "1: L = 1",
                    "1: Abcdefghi = 1", "1: Low(1) = 1 = 1", "1: 1: Low = 1", "1; Low = 1", "1: Low = 1\t",
                    "9" * 5000 + ": Low = 1", "1: Low(1 = 1", "1: Low1) = 1", "1: Low(x) = 1", "1: = 1"]:
            with self.subTest(row=row):
                self.refuses(BadRow, {"row": 2}, Journal.read, f"1: Low = 0\n{row}\n2: Low = 0")
        self.refuses(BadRow, {"row": 1}, Journal.read, "x\ny")
        self.refuses(BadRow, {"row": 2}, Journal.read, "1: Low = 0\n")


def task(*rows):
    """The task with these demands."""
    return Task(BOOK, WORLD, {}, list(rows))


TASK = task(*ROWS)
RIGHT = [(1, "Eq", (1,), 1), (2, "Ge", (3,), 3), (3, "Ge", (1,), 1), (4, "Up", (0,), 6), (5, "Eq", (6,), 6),
         (6, "Up", (0,), 8)]


class ReplayTest(PackageTest):

    def test_a_journal_of_a_climb(self):
        end = climb(TASK)
        self.assertEqual(list(end.journal.steps), RIGHT)
        self.assertEqual(first_wrong_step(TASK, None, end.journal), 0)
        self.assertEqual(replayed(TASK, None, end.journal), end.guesses)
        self.assertEqual(replayed(TASK, None, end.journal).text, "Eq(1) = 1\nEq(6) = 6\nGe(1) = 1\nGe(3) = 3\nUp(0) = 8")
        self.assertIs(is_finished(TASK, None, end.journal), True)

    def test_journals_in_another_order_of_open_demands(self):
        steps = [RIGHT[1]] + RIGHT[:1] + RIGHT[2:]
        self.assertEqual(first_wrong_step(TASK, None, Journal(steps)), 0)
        self.assertIs(is_finished(TASK, None, Journal(steps)), True)

    def test_the_first_steps_alone(self):
        for count, entries in enumerate((0, 1, 2, 3, 4, 4)):
            journal = Journal(RIGHT[:count])
            self.assertEqual(first_wrong_step(TASK, None, journal), 0)
            self.assertIs(is_finished(TASK, None, journal), False)
            self.assertEqual(len(replayed(TASK, None, journal)), entries)

    def test_one_wrong_step_of_each_kind(self):
        for place, step in [(1, (3, "Ge", (4,), 4)), (1, (4, "Up", (0,), 6)), (1, (7, "Eq", (1,), 1)),
                            (1, (60, "Eq", (1,), 1)), (1, (2, "Eq", (1,), 1)), (1, (1, "Eq", (2,), 1)),
                            (1, (1, "Eq", (1, 1), 1)), (1, (1, "Eq", (), 1)), (1, (1, "Ge", (1,), 1)),
                            (1, (1, "Neu", (1,), 1)), (1, (1, "Eq", (1,), 0)), (1, (1, "Eq", (1,), 2)),
                            (2, (2, "Ge", (3,), 7)), (2, (2, "Ge", (3,), 4)), (2, (2, "Ge", (3,), 2)),
                            (3, (3, "Ge", (4,), 4)), (3, (2, "Ge", (3,), 3)), (4, (4, "Up", (0,), 5)),
                            (4, (4, "Up", (1,), 6)), (4, (6, "Up", (0,), 8)), (5, (6, "Up", (0,), 8)),
                            (5, (5, "Eq", (0,), 0)), (6, (4, "Up", (0,), 6)), (6, (6, "Up", (0,), 6))]:
            with self.subTest(step=step):
                journal = Journal(RIGHT[:place - 1] + [step] + RIGHT[place:])
                self.wrong_at(place, TASK, journal)

    def wrong_at(self, place, found, journal):
        """The first wrong step has this number, whatever stands behind it."""
        for steps in (journal.steps, journal.steps[:place]):
            self.assertEqual(first_wrong_step(found, None, Journal(list(steps))), place)
            self.refuses(WrongStep, {"step": place}, replayed, found, None, Journal(list(steps)))
            self.assertIs(is_finished(found, None, Journal(list(steps))), False)

    def test_steps_that_are_struck_doubled_or_exchanged(self):
        self.wrong_at(2, TASK, Journal(RIGHT[1:]))
        self.wrong_at(3, TASK, Journal(RIGHT[:2] + RIGHT[3:]))
        self.wrong_at(2, TASK, Journal(RIGHT[:1] + RIGHT))
        self.wrong_at(5, TASK, Journal(RIGHT[:4] + RIGHT[3:]))
        self.wrong_at(7, TASK, Journal(RIGHT + RIGHT[5:]))
        self.wrong_at(1, TASK, Journal([RIGHT[2], RIGHT[0], RIGHT[1]]))
        self.wrong_at(3, TASK, Journal(RIGHT[:2] + [RIGHT[3], RIGHT[2]] + RIGHT[4:]))
        self.wrong_at(4, TASK, Journal(RIGHT[:3] + [RIGHT[4], RIGHT[3]]))

    def test_the_first_false_upper_demand_alone_is_open(self):
        found = task("Up(0) by 6", "Up(1) by 6", "Eq(6) by 6")
        self.wrong_at(1, found, Journal([(1, "Up", (0,), 6)]))
        self.wrong_at(2, found, Journal([(3, "Eq", (6,), 6), (1, "Up", (0,), 6)]))
        found = task("Up(0) by 6", "Up(1) by 6")
        self.wrong_at(1, found, Journal([(2, "Up", (1,), 6)]))
        self.assertEqual(first_wrong_step(found, None, Journal([(1, "Up", (0,), 6), (2, "Up", (1,), 6)])), 0)

    def test_unfinished_and_finished(self):
        self.assertIs(is_finished(TASK, None, Journal([])), False)
        self.assertIs(is_finished(task("Eq(1) by 2"), None, Journal([])), True)
        self.assertIs(is_finished(task(), None, Journal([])), True)
        self.assertIs(is_finished(task("Eq(1) by 2"), None, Journal(RIGHT[:1])), False)

    def test_all_climbs(self):
        for seed in range(80):
            found = some_task(seed, seed % 2 == 0)
            slow = SlowClimb(found, some_picks(seed), 200)
            journal = Journal(slow.steps)
            self.assertEqual(first_wrong_step(found, None, journal), 0)
            self.assertIs(is_finished(found, None, journal), True)
            for count, guesses in enumerate(slow.states):
                part = Journal(slow.steps[:count])
                self.assertEqual(replayed(found, None, part), guesses)
                self.assertIs(is_finished(found, None, part), count == len(slow.steps))

    def test_2000_steps(self):
        found = long_task()
        journal = Journal(list(climb_steps(found, limit=2000)))
        self.assertEqual(len(journal), 2000)
        self.assertEqual(first_wrong_step(found, None, journal), 0)
        self.assertIs(is_finished(found, None, journal), False)


class StartTest(PackageTest):

    def test_from_a_start(self):
        start = Guesses.read("Eq(1) = 1\nGe(9) = 9")
        steps = [(3, "Ge", (1,), 1), (2, "Ge", (3,), 3)]
        self.assertEqual(first_wrong_step(TASK, start, Journal(steps)), 0)
        self.assertEqual(replayed(TASK, start, Journal(steps)).text, "Eq(1) = 1\nGe(1) = 1\nGe(3) = 3\nGe(9) = 9")
        self.assertEqual(first_wrong_step(TASK, start, Journal(RIGHT)), 1)
        self.assertIs(is_finished(TASK, start, Journal(steps + RIGHT[3:])), True)
        self.assertIs(is_finished(TASK, start, Journal(RIGHT)), False)
        self.assertEqual(replayed(TASK, start, Journal([])), start)

    def test_no_start_and_an_empty_one(self):
        self.assertEqual(first_wrong_step(TASK, Guesses([]), Journal(RIGHT)), 0)
        self.assertEqual(replayed(TASK, None, Journal([])), Guesses([]))

    def test_entries_of_upper_choices_are_removed_from_the_start(self):
        start = Guesses.read("Up(0) = 99999\nUp = 3\nUp(0, 1) = 4\nEq(1) = 1")
        self.assertEqual(replayed(TASK, start, Journal([])).text, "Eq(1) = 1")
        self.assertEqual(first_wrong_step(TASK, start, Journal(RIGHT[1:])), 0)
        self.assertIs(is_finished(task("Eq(Up(0)) by 6"), Guesses.read("Up(0) = 6"), Journal([])), True)
        self.assertIs(is_finished(task("Up(0) by 8"), Guesses.read("Up(0) = 8"), Journal([])), False)
        self.assertIs(is_finished(TASK, start, Journal(RIGHT[1:])), True)
        self.assertEqual(start.text, "Eq(1) = 1\nUp = 3\nUp(0) = 99999\nUp(0, 1) = 4")

    def test_errors_of_the_start(self):
        many = Guesses([("Ge", (number,), number % 5) for number in range(2001)])
        uppers = [("Up", (number,), 99999) for number in range(3000)]
        for call in (first_wrong_step, replayed, is_finished):
            self.refuses(TooLarge, {}, call, TASK, many, Journal(RIGHT))
            self.refuses(TooLarge, {}, call, TASK, Guesses([("Ge", (20000,), 20000)]), Journal(STEPS))
            self.refuses(NotRight, {"name": "Eq", "numbers": (1,)}, call, TASK, Guesses.read("Eq(1) = 2"), Journal(STEPS))
            self.refuses(NotRight, {"name": "Eq", "numbers": ()}, call, TASK, Guesses.read("Ge(0) = 1\nEq = 2\nUp = 1"),
                         Journal(RIGHT))
            call(TASK, Guesses(uppers + [("Ge", (19999,), 19999)]), Journal(RIGHT))


class PhasesTest(PackageTest):

    def test_counts(self):
        self.assertEqual(phases(TASK, Journal([])), [0])
        self.assertEqual(phases(TASK, Journal(RIGHT)), [0, 0, 0, 1, 1])
        self.assertEqual(phases(TASK, Journal([RIGHT[3]] * 2)), [2])
        self.assertEqual(phases(TASK, Journal([RIGHT[0]])), [0, 0])
        self.assertEqual(phases(TASK, Journal([RIGHT[3], RIGHT[3], RIGHT[0], RIGHT[1], RIGHT[3]])), [2, 0, 1])

    def test_the_choice_of_a_step_counts_whether_or_not_it_is_right(self):
        self.assertEqual(phases(TASK, Journal([(60, "Up", (1, 2, 3), 4), (1, "Eq", (), 5)])), [1, 0])

    def test_unknown_names(self):
        steps = [RIGHT[0], (1, "Neu", (), 0), (1, "Alt", (), 0)]
        self.refuses(UnknownName, {"name": "Neu"}, phases, TASK, Journal(steps))

    def test_what_is_returned_is_not_shared(self):
        journal = Journal(RIGHT)
        phases(TASK, journal).append(7)
        self.assertEqual(phases(TASK, journal), [0, 0, 0, 1, 1])

    def test_long_phases(self):
        found = long_task()
        journal = Journal(list(climb_steps(found, limit=2000)))
        self.assertEqual(phases(found, journal), [33] * 58 + [2000 - 34 * 58])


if __name__ == "__main__":
    unittest.main()

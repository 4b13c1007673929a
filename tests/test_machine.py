"""Point 48: the machine."""

import unittest

from samples import some_task
from support import PackageTest

from rightatlast.books import Book
from rightatlast.climbing import climb
from rightatlast.codes import Code, code_of
from rightatlast.errors import TooLarge, Unfinished
from rightatlast.guesses import Guesses
from rightatlast.journals import Journal
from rightatlast.machine import machine_run
from rightatlast.tasks import Task
from rightatlast.tower import tower
from rightatlast.values import truth_of
from rightatlast.worlds import World

BOOK = Book.read("fun f 1\nfun g 2\nrel R 1\nrel S 2\npick Low 1: f(y0) <= p1\n"
                 "pick Two 2: ((R(y0) and not S(p1, y0 + 2)) or (y0 = 3 -> g(p2, 1) = y0))\npick Any 0: R(y0)")
WORLD = World.read(BOOK, "top 3\nf 9 7 2 5\ng " + " ".join(str(number % 7) for number in range(16))
                   + "\nR 0 0 1 1\nS " + " ".join("0110100110010110"))


def task(inputs, *rows):
    """The task with these inputs and demands."""
    return Task(BOOK, WORLD, inputs, list(rows))


def rows_done(made):
    """The number of rows that are done, counted by the climb: a term or formula has as many rows as its size says."""
    done = 1
    table = []
    for step in climb(made).journal.steps + (None,):
        guesses = Guesses(table)
        for demand in made.demands:
            done += 1 + demand.formula.size + 1
            if not truth_of(demand.formula, made.world, dict(made.inputs), guesses):
                done += sum(part.size for part in demand.head.parts) + demand.by.size + 1
                done += (step[3] + 1) * demand.choice.body.size
                table.append(step[1:])
                break
    return done


class MachineTest(PackageTest):

    def runs_like_the_climb(self, made):
        """The run of a task, also by a code that was read, has the guesses and the journal of the climb."""
        end = climb(made)
        inputs = dict(made.inputs)
        result = machine_run(code_of(made), made.world, inputs)
        self.assertIsInstance(result, tuple)
        guesses, journal, done = result
        self.assertEqual((guesses, journal), (end.guesses, end.journal))
        self.assertEqual((guesses.rows, journal.steps), (end.guesses.rows, end.journal.steps))
        self.assertEqual(done, rows_done(made))
        self.assertEqual(machine_run(Code.read(code_of(made).text), made.world, inputs), result)
        return done

    def test_tasks_that_are_counted_by_hand(self):
        # One row: stop.
        self.assertEqual(machine_run(code_of(task({})), WORLD, {}), (Guesses([]), Journal([]), 1))
        # demand, 10 rows of the formula, pass, stop.
        self.assertEqual(machine_run(code_of(task({}, "Low(1) by 0")), WORLD, {}), (Guesses([]), Journal([]), 13))
        # demand, 10 rows, pass; two rows of terms, correct, and the 4 rows of the body for 0, 1 and 2; then as above.
        self.assertEqual(machine_run(code_of(task({}, "Low(5) by 3")), WORLD, {}),
                         (Guesses([("Low", (5,), 2)]), Journal([(1, "Low", (5,), 2)]), 12 + 3 + 12 + 13))

    def test_the_last_trial_is_at_the_by_term(self):
        self.assertEqual(machine_run(code_of(task({}, "Low(5) by 2")), WORLD, {}),
                         (Guesses([("Low", (5,), 2)]), Journal([(1, "Low", (5,), 2)]), 12 + 3 + 12 + 13))

    def test_towers(self):
        for storeys in range(1, 7):
            self.runs_like_the_climb(tower(storeys))

    def test_some_tasks(self):
        corrections = 0
        for seed in range(40):
            made = some_task(seed, False)
            self.runs_like_the_climb(made)
            corrections += len(climb(made).journal)
        self.assertGreater(corrections, 100)

    def test_every_kind_of_row(self):
        for x in range(12):
            self.runs_like_the_climb(task({"x": x, "z": x // 2}, "Two(f(x), Any + 1) by g(x, Low(z)) + 2", "Any by x",
                                          "Low(z) by x", "Two(z, x) by Two(x, z)", "Two(x, z) by f(x)"))

    def test_each_kind_of_body(self):
        bodies = ["y0 = p1 + 1", "(y0 = 2 or y0 = p1)", "(y0 = 2 or R(y0))", "(R(y0) -> y0 = p1)", "not R(y0)", "not not R(y0)",
                  "(R(y0) and y0 <= p1)", "(1 <= y0 and p1 <= y0)", "S(y0, p1 + 2)", "S(p1, y0)", "f(y0) = p1", "f(y0 + 1) <= p1",
                  "g(y0, p1) = 3", "g(p1, y0) <= y0", "(y0 = 4 -> R(p1))", "(y0 = 4 or (p1 <= y0 and not R(y0)))"]
        signs = "abcdefghijklmnop"
        rows = [f"pick Ch{sign} 1: {body}" for sign, body in zip(signs, bodies)]
        book = Book.read("\n".join(BOOK.text.split("\n")[:4] + rows))
        world = World.read(book, WORLD.text)
        corrections = 0
        for x in range(5):
            demands = [f"Ch{sign}({part}) by {by}" for sign in signs for part, by in (("x", "x + 2"), ("2", "7"))]
            for start in range(0, 32, 8):
                made = Task(book, world, {"x": x}, demands[start:start + 8])
                self.runs_like_the_climb(made)
                corrections += len(climb(made).journal)
        self.assertGreater(corrections, 30)

    def test_names_that_look_like_words_of_rows(self):
        made = task({"stop": 5, "end": 3, "demand": 2}, "Low(stop) by end", "Low(end + 3) by end", "Any by demand")
        self.runs_like_the_climb(made)
        self.assertEqual(len(climb(made).journal), 3)

    def test_values_above_the_top(self):
        self.runs_like_the_climb(task({}, "Low(2) by 99", "Any by 99", "Two(99, 98) by 97"))

    def test_further_inputs(self):
        made = task({"x": 7, "u": 1, "z": 4}, "Low(x) by 3")
        result = machine_run(code_of(made), WORLD, {"x": 7, "u": 1, "z": 4})
        self.assertEqual(result[0].text, "Low(7) = 1")

    def test_nothing_that_is_passed_is_changed(self):
        inputs = {"x": 7}
        machine_run(code_of(task(inputs, "Low(x) by 3")), WORLD, inputs)
        self.assertEqual(inputs, {"x": 7})


class LimitsTest(PackageTest):

    def test_a_limit_of_0(self):
        self.assertEqual(machine_run(code_of(task({})), WORLD, {}, limit=0)[2], 1)
        self.assertEqual(machine_run(code_of(task({}, "Low(1) by 0")), WORLD, {}, limit=0)[1], Journal([]))
        self.refuses(Unfinished, {"journal": Journal([])}, machine_run, code_of(task({}, "Low(5) by 3")), WORLD, {},
                     limit=0)

    def test_just_enough_and_one_too_few(self):
        for made in [tower(3), tower(6)] + [some_task(seed, False) for seed in range(12)]:
            end = climb(made)
            count = len(end.journal)
            inputs = dict(made.inputs)
            self.assertEqual(machine_run(code_of(made), made.world, inputs, limit=count)[:2], (end.guesses, end.journal))
            if count > 0:
                self.refuses(Unfinished, {"journal": Journal(list(end.journal.steps[:-1]))}, machine_run, code_of(made),
                             made.world, inputs, limit=count - 1)

    def test_2000_and_2001(self):
        made = tower(2)
        self.assertEqual(len(machine_run(code_of(made), made.world, {}, limit=2000)[1]), 3)
        self.refuses(TooLarge, {}, machine_run, code_of(made), made.world, {}, limit=2001)
        self.refuses(TooLarge, {}, machine_run, code_of(task({})), WORLD, {}, limit=2001)


if __name__ == "__main__":
    unittest.main()

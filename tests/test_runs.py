"""Point 46: runs of derivations, and their answers."""

import unittest

from support import PackageTest

from rightatlast.books import Book
from rightatlast.climbing import Climb, climb
from rightatlast.derivations import Derivation
from rightatlast.errors import BadInput, MissingInput, TooLarge, TooWide, Unfinished, WrongBook, WrongLine
from rightatlast.formulatext import read_formula
from rightatlast.guesses import Guesses
from rightatlast.journals import Journal
from rightatlast.library import Library
from rightatlast.runs import Run, run
from rightatlast.values import truth_of
from rightatlast.worlds import World

BOOK = Book.read("fun f 1\nrel R 1\npick Low 1: f(y0) <= p1\npick Any 0: R(y0)\npick Never 2: p1 = 0\n"
                 "pick Up 1: (Low(p1) <= y0 and R(y0))")
WORLD = World.read(BOOK, "top 3\nf 9 7 2 5\nR 0 0 1 1")
LOW = "(f(z) <= x -> f(Low(x)) <= x) ; demand Low(x) by z"
STEP = "(x <= y -> x <= y + 1) ; order"


def derivation(*rows):
    """The derivation of some rows."""
    return Derivation.read(BOOK, "\n".join(rows))


def low_demand(part, by):
    """The row of the demand line `Low(part) by BY`."""
    return f"(f({by}) <= {part} -> f(Low({part})) <= {part}) ; demand Low({part}) by {by}"


def ran(rows, inputs, **keywords):
    """The run of some rows in the world, by the library without facts."""
    return run(Library(BOOK), derivation(*rows), WORLD, inputs, **keywords)


class RunTest(PackageTest):

    def test_a_run(self):
        made = ran([LOW, "(Low(x) = 0 or f(Low(x)) <= x) ; zero Low(x)", "(f(z) <= x -> Low(x) <= z) ; least Low(x) by z",
                    "(f(z) <= x -> (f(Low(x)) <= x and Low(x) <= z)) ; follows 1 3"], {"x": 5, "z": 3})
        self.assertIsInstance(made, Run)
        self.assertIsInstance(made.climb, Climb)
        self.assertEqual(made.climb.journal.steps, ((1, "Low", (5,), 2),))
        self.assertEqual(made.climb.guesses.text, "Low(5) = 2")
        self.assertEqual([demand.text for demand in made.climb.task.demands], ["Low(x) by z"])
        self.assertEqual((made.climb.task.book, made.climb.task.world), (BOOK, WORLD))
        self.assertEqual(made.climb.task.inputs, (("x", 5), ("z", 3)))
        self.assertEqual(made.claim, read_formula("(f(z) <= x -> (f(Low(x)) <= x and Low(x) <= z))"))
        self.assertIs(made.truth, True)
        self.assertEqual(made.answers, (("Low(x)", 2),))
        self.assertEqual((len(made.climb.start), made.climb.looks), (0, 2))

    def test_answers_without_a_correction(self):
        # f(z) <= x is false, so that the demand is true at once and the guess stays 0.
        made = ran([LOW], {"x": 1, "z": 3})
        self.assertEqual((made.answers, made.truth, len(made.climb.journal)), ((("Low(x)", 0),), True, 0))

    def test_facts(self):
        library = Library(BOOK).added("step", derivation(STEP)).added("low", derivation(LOW))
        rows = ["(f(2) <= 7 -> f(Low(7)) <= 7) ; fact low z = 2, x = 7",
                "(f(2) <= y -> f(Low(y)) <= y) ; fact low x = y, z = 2",
                "(f(2) <= 7 -> f(Low(7)) <= 7) ; fact low x = 7, z = 2, u = w",
                "((f(2) <= 7 -> f(Low(7)) <= 7) and (f(2) <= y -> f(Low(y)) <= y)) ; follows 1 2"]
        made = run(library, derivation(*rows), WORLD, {"y": 4})
        self.assertEqual([demand.text for demand in made.climb.task.demands], ["Low(7) by 2", "Low(y) by 2"])
        self.assertEqual([line.reason for line in made.derivation], ["demand", "demand", "demand", "follows"])
        self.assertEqual(made.derivation.lines[1].text, "(f(2) <= y -> f(Low(y)) <= y) ; demand Low(y) by 2")
        self.assertEqual(made.answers, (("Low(7)", 1), ("Low(y)", 2)))
        self.assertEqual((made.truth, made.claim), (True, derivation(*rows).claim))

    def test_without_demand_lines(self):
        made = ran([STEP], {"x": 3, "y": 7})
        self.assertEqual((made.answers, made.truth, made.climb.task.demands), ((), True, ()))
        self.assertEqual((made.climb.guesses.text, made.climb.looks, made.derivation.text), ("", 0, STEP))
        made = ran(["Any <= Any + 1 ; order"], {})
        self.assertEqual((made.answers, made.truth), ((("Any", 0),), True))

    def test_the_same_demand_twice(self):
        rows = [LOW, low_demand("2", "1"), LOW.replace("by z", "by   z").replace("Low(x) by", "Low( x ) by"), LOW]
        made = ran(rows, {"x": 7, "z": 3})
        self.assertEqual([demand.text for demand in made.climb.task.demands], ["Low(x) by z", "Low(2) by 1"])
        # Equal values are no equal texts.
        made = ran([LOW, low_demand("y", "z")], {"x": 7, "y": 7, "z": 3})
        self.assertEqual([demand.text for demand in made.climb.task.demands], ["Low(x) by z", "Low(y) by z"])
        self.assertEqual(made.climb.journal.steps, ((1, "Low", (7,), 1),))

    def test_upper_demands(self):
        rows = ["((Low(x) <= 3 and R(3)) -> (Low(x) <= Up(x) and R(Up(x)))) ; demand Up(x) by 3", low_demand("x", "3"),
                "((Low(x) <= 3 and R(3)) -> (Low(x) <= Up(x) and R(Up(x)))) ; follows 1"]
        made = ran(rows, {"x": 2})
        self.assertEqual(made.climb.journal.steps, ((1, "Up", (2,), 3),))
        made = ran(rows, {"x": 5})
        self.assertEqual(made.climb.journal.steps, ((2, "Low", (5,), 2), (1, "Up", (5,), 3)))
        self.assertEqual(made.answers, (("Low(x)", 2), ("Up(x)", 3)))
        self.assertEqual(made.climb.guesses, Guesses([("Low", (5,), 2), ("Up", (5,), 3)]))

    def test_picks_and_a_limit(self):
        rows = [low_demand("7", "3"), low_demand("5", "3"), low_demand("2", "3"), low_demand("2", "2")]
        for picks in ((), (1,), (5, 0), (2, 1, 0)):
            made = ran(rows, {}, picks=picks, limit=3)
            end = climb(made.climb.task, picks=picks)
            self.assertEqual(made.climb.journal, end.journal)
            self.assertEqual(made.climb.looks, end.looks)
        self.assertEqual([step[0] for step in ran(rows, {}, picks=(1,)).climb.journal.steps], [2, 4, 1])
        self.refuses(Unfinished, {"journal": Journal([(2, "Low", (5,), 2), (4, "Low", (2,), 2)])}, ran, rows, {},
                     picks=(1,), limit=2)
        self.refuses(Unfinished, {"journal": Journal([])}, ran, rows, {}, limit=0)
        self.assertEqual(len(ran(rows[2:3], {}, limit=0).climb.journal), 0)

    def test_answers_of_heads_within_heads(self):
        claim = "(f(Low(Low(x))) = Low(x + 1) or not (Any = Low(x) and f(Low(Low(x))) = Low(x + 1)))"
        rows = [low_demand("x", "3"), low_demand("Low(x)", "2"), f"{claim} ; follows"]
        made = ran(rows, {"x": 5})
        self.assertEqual(made.answers, (("Low(x)", 2), ("Low(Low(x))", 2), ("Low(x + 1)", 0), ("Any", 0)))
        self.assertEqual(made.climb.guesses.text, "Low(2) = 2\nLow(5) = 2")
        self.assertIs(made.truth, truth_of(made.claim, WORLD, {"x": 5}, made.climb.guesses))

    def test_a_claim_without_choice_terms(self):
        made = ran([LOW, "(R(x) or not R(x)) ; follows"], {"x": 7, "z": 2})
        self.assertEqual((made.answers, made.truth, len(made.climb.journal)), ((), True, 1))

    def test_60_and_61_demands(self):
        rows = [low_demand("0", str(number)) for number in range(61)]
        self.assertEqual(len(ran(rows[:60], {}).climb.task.demands), 60)
        self.assertEqual(len(ran(rows[:60] * 3, {}).climb.task.demands), 60)
        self.refuses(TooLarge, {}, ran, rows, {})

    def test_40_and_41_choice_terms(self):
        rows = [low_demand(str(number), "0") for number in range(41)]
        self.assertEqual(len(ran(rows[:40], {}).climb.task.demands), 40)
        self.refuses(TooWide, {}, ran, rows, {})
        # The choice terms of other lines are not among those of the task.
        made = ran(rows[:40] + ["Any <= Any ; order"], {})
        self.assertEqual(made.answers, (("Any", 0),))

    def test_nothing_that_is_passed_is_changed_or_shared(self):
        inputs = {"x": 7, "z": 2}
        made = ran([LOW], inputs)
        self.assertEqual(inputs, {"x": 7, "z": 2})
        inputs["x"] = 0
        self.assertEqual(made.climb.task.inputs, (("x", 7), ("z", 2)))


class ErrorsTest(PackageTest):

    other = Book.read("fun f 1\nrel R 1")

    def long_library(self):
        """A library with a fact of 700 lines."""
        return Library(BOOK).added("long", derivation(*["0 = 0 ; order"] * 700))

    def test_wrong_books(self):
        wrong = "x = y ; order"
        world = World.read(self.other, "top 3\nf 9 7 2 5\nR 0 0 1 1")
        self.refuses(WrongBook, {}, run, Library(BOOK), Derivation.read(self.other, wrong), WORLD, {"X": 100})
        self.refuses(WrongBook, {}, run, Library(BOOK), derivation(wrong), world, {"X": 100})
        self.refuses(WrongBook, {}, run, Library(self.other), Derivation.read(self.other, wrong), WORLD, {})
        again = Book.read(BOOK.text)
        made = run(Library(again), derivation(LOW), World.read(Book.read(BOOK.text), WORLD.text), {"x": 7, "z": 2})
        self.assertEqual(made.answers, (("Low(x)", 1),))

    def test_wrong_lines_come_before_the_unfolding(self):
        rows = ["0 = 0 ; fact long", "0 = 0 ; fact long", "x = y ; order"]
        self.refuses(WrongLine, {"line": 3}, run, self.long_library(), derivation(*rows), WORLD, {"X": 1})
        self.refuses(TooLarge, {}, run, self.long_library(), derivation(*rows[:2]), WORLD, {"X": 1})

    def test_bad_inputs_come_before_missing_ones(self):
        self.refuses(BadInput, {"name": "y1"}, ran, [LOW], {"y": 99, "y1": 1, "z": 100})
        self.refuses(BadInput, {"name": "z"}, ran, [LOW], {"y": 99, "z": 100})
        self.refuses(MissingInput, {"name": "z"}, ran, [LOW], {"y": 99})

    def test_missing_inputs_line_by_line(self):
        rows = ["0 = 0 ; order", "(b = 0 -> b = 0) ; demand Never(b, a) by c", "(Never(e, d) = 0 or e = 0) ; zero Never(e, d)",
                "(g = 0 -> Never(g, k) <= h) ; least Never(g, k) by h", "(i <= j or not i <= j) ; follows"]
        given = {}
        for name in ("b", "a", "c", "e", "d", "g", "k", "h", "i", "j"):
            self.refuses(MissingInput, {"name": name}, ran, rows, dict(given))
            given[name] = 1
        self.assertIs(ran(rows, given).truth, True)

    def test_names_that_are_put_for_nothing_are_not_missing(self):
        library = Library(BOOK).added("step", derivation(STEP)).added("same", derivation("0 = 0 ; order"))
        rows = ["0 = 0 ; fact same u = w", "(x <= 1 -> x <= 2) ; fact step y = 1"]
        self.assertIs(run(library, derivation(*rows), WORLD, {"x": 1}).truth, True)
        # What is in the fact alone is missing, too.
        library = Library(BOOK).added("step", derivation("v = v ; order", STEP))
        self.refuses(MissingInput, {"name": "v"}, run, library, derivation(rows[1]), WORLD, {"x": 1})

    def test_missing_inputs_come_before_too_many_demands(self):
        rows = [low_demand("0", str(number)) for number in range(61)]
        self.refuses(MissingInput, {"name": "x"}, ran, rows + ["x = x ; order"], {})
        self.refuses(TooLarge, {}, ran, rows + ["x = x ; order"], {"x": 1})

    def test_too_many_demands_come_before_too_many_choice_terms(self):
        rows = [low_demand(str(number), "0") for number in range(61)]
        self.refuses(TooLarge, {}, ran, rows, {})
        self.refuses(TooWide, {}, ran, rows[:60], {}, picks=(1,) * 61, limit=2001)

    def test_the_errors_of_a_climb(self):
        self.refuses(TooLarge, {}, ran, [LOW], {"x": 7, "z": 2}, picks=(1,) * 61, limit=0)
        self.refuses(TooLarge, {}, ran, [LOW], {"x": 7, "z": 2}, picks=(1000000,), limit=0)
        self.refuses(TooLarge, {}, ran, [LOW], {"x": 7, "z": 2}, limit=2001)
        self.refuses(Unfinished, {"journal": Journal([])}, ran, [LOW], {"x": 7, "z": 2}, limit=0)
        self.assertEqual(len(ran([LOW], {"x": 7, "z": 2}, picks=(999999,) * 60, limit=2000).climb.journal), 1)


if __name__ == "__main__":
    unittest.main()

"""Over the whole program: what is spoken is told, run, cited as a fact, unfolded, and made free of choices."""

import itertools
import random
import unittest

from proofs import PROOFS, proof
from support import PackageTest

from rightatlast.books import Book
from rightatlast.checker import first_wrong_line, is_accepted, put_in_derivation
from rightatlast.climbing import climb
from rightatlast.codes import code_of
from rightatlast.corrections import wrong_entry
from rightatlast.derivations import Derivation
from rightatlast.desk import Desk
from rightatlast.flags import bound, flags
from rightatlast.formulatext import read_formula
from rightatlast.guesses import Guesses
from rightatlast.journals import is_finished
from rightatlast.library import Library
from rightatlast.machine import machine_run
from rightatlast.pieces import choice_terms, members_of
from rightatlast.putting import put_names
from rightatlast.quick import quick_climb
from rightatlast.runs import run
from rightatlast.settling import settle
from rightatlast.spoken import Spoken
from rightatlast.tables import climb_table
from rightatlast.telling import tell_formula
from rightatlast.termtext import read_term
from rightatlast.told import tell
from rightatlast.tower import tower
from rightatlast.unfolding import unfolded
from rightatlast.values import truth_of
from rightatlast.without import without_choices
from rightatlast.worlds import World


def some_world(source, book):
    """A random world for a book with the declarations of the proofs; all relations at 0 are mostly alike there."""
    top = source.randrange(2, 5)
    squares = (top + 1) * top
    zero = source.choice("01")
    rows = [f"top {top}", "f " + " ".join(str(source.randrange(top + 2)) for _ in range(top + 1)),
            "g " + " ".join(str(source.randrange(top + 2)) for _ in range((top + 1) * (top + 1))),
            " ".join(["R", zero] + [source.choice("01") for _ in range(top)]),
            " ".join(["S"] + [zero] * (top + 1) + [source.choice("01") for _ in range(squares)])]
    return World.read(book, "\n".join(rows))


class ToldProofsTest(PackageTest):

    def test_every_line_is_true_behind_a_run(self):
        source = random.Random(1)
        corrections = 0
        for name, number in itertools.product(PROOFS, (0, 1, 2)):
            made = proof(name)
            told = tell(made, {word: number for word in made.inputs})
            for _ in range(6):
                world = some_world(source, told.book)
                picks = tuple(source.randrange(100) for _ in range(source.randrange(3)))
                result = run(Library(told.book), told, world, {}, picks=picks)
                self.assertIs(result.truth, True)
                self.assertIs(result.climb.task.stands(result.climb.guesses), True)
                self.assertIsNone(wrong_entry(world, result.climb.guesses))
                self.lines_say_something_true(told, world, result.climb.guesses)
                corrections += len(result.climb.journal)
        self.assertGreater(corrections, 10)

    def lines_say_something_true(self, told, world, guesses):
        """Point 42: each line whose boxes assume something true is true."""
        assumed = []
        for line in told:
            truth = truth_of(line.formula, world, {}, guesses)
            assumed = assumed[:line.depth - 1] + [truth] if line.reason == "assume" else assumed[:line.depth]
            self.assertTrue(truth or not all(assumed), line.text)

    def test_with_inputs_instead_of_numbers(self):
        source = random.Random(2)
        for name in PROOFS:
            if name in ("induction", "twice"):
                continue
            made = proof(name)
            told = tell(made, {})
            for number in range(4):
                inputs = {word: number for word in made.inputs}
                world = some_world(source, told.book)
                result = run(Library(told.book), told, world, inputs)
                other = run(Library(told.book), tell(made, inputs) if inputs else told, world, {})
                self.assertEqual((result.truth, result.climb.journal), (True, other.climb.journal))
                self.assertEqual([worth for _, worth in result.answers], [worth for _, worth in other.answers])

    def test_told_claims_as_facts(self):
        told = tell(proof("least"), {})
        library = Library(told.book).added("least", told)
        rows = [f"{told.claim.text} ; fact least", f"(R(Ca) -> R(Ca)) ; follows", f"({told.claim.text} and (R(Ca) -> R(Ca))) "
                "; follows 1 2"]
        user = Derivation.read(told.book, "\n".join(rows))
        self.assertTrue(is_accepted(library, user))
        flat = unfolded(library, user)
        self.assertEqual(len(flat), len(told) + 2)
        self.assertTrue(is_accepted(Library(told.book), flat))
        world = some_world(random.Random(3), told.book)
        self.assertEqual(run(library, user, world, {}).answers, run(Library(told.book), flat, world, {}).answers)

    def test_a_fact_with_terms_for_its_names(self):
        told = tell(proof("take"), {})
        library = Library(told.book).added("take", told)
        claim = put_names(told.claim, {"n": read_term("f(m) + 2")})
        user = Derivation.read(told.book, f"{claim.text} ; fact take n = f(m) + 2")
        self.assertEqual(first_wrong_line(library, user), 0)
        flat = unfolded(library, user)
        self.assertEqual(flat, put_in_derivation(told, {"n": read_term("f(m) + 2")}))
        free = without_choices(flat)
        self.assertEqual(free.claim.text, "(S(0, f(m) + 2) -> S(0, f(m) + 2))")
        self.assertEqual(choice_terms([line.formula for line in free]), ())

    def test_runs_and_derivations_without_choices_agree(self):
        # Each claim without choices has a member that is true; a run finds the numbers for the told claim.
        source = random.Random(4)
        for name, number in itertools.product(("induction", "drinker", "chain", "twice", "each and some"), (1, 2)):
            made = proof(name)
            told = tell(made, {word: number for word in made.inputs})
            free = without_choices(told)
            for _ in range(5):
                world = some_world(source, told.book)
                self.assertTrue(any(truth_of(one, world, {}, Guesses([])) for one in members_of(free.claim)))
                self.assertIs(run(Library(told.book), told, world, {}).truth, True)

    def test_the_example_finds_a_place(self):
        # R holds at 0 to 4 and not at 5: the run finds 4.
        told = tell(Spoken.read(Book.read("rel R 1"), ["n"], PROOFS["induction"][1]), {"n": 8})
        world = World.read(told.book, "top 9\nR 1 1 1 1 1 0 0 1 0 0")
        result = run(Library(told.book), told, world, {})
        self.assertEqual(result.answers, (("Ca", 4),))
        made = without_choices(tell(Spoken.read(Book.read("rel R 1"), ["n"], PROOFS["induction"][1]), {"n": 3}))
        self.assertEqual(len(made), 161)

    def test_telling_and_putting(self):
        # Point 55 over a whole derivation: numbers for the inputs, or terms for the names of what was told.
        for name in PROOFS:
            made = proof(name)
            if name in ("induction", "twice"):
                continue
            told = tell(made, {})
            numbers = {word: 7 for word in made.inputs}
            put = put_in_derivation(told, {word: read_term("7") for word in made.inputs})
            self.assertEqual(tell(made, numbers).text, put.text)


class EndsTest(PackageTest):

    def test_towers(self):
        for storeys in range(1, 7):
            task = tower(storeys)
            end = climb(task, picks=(3, 1, 2))
            self.assertEqual(len(end.journal), bound(task))
            self.assertEqual(end.journal, quick_climb(task, picks=(2, 5)).journal)
            self.assertTrue(is_finished(task, None, end.journal))
            self.assertEqual(flags(task, end.guesses), "1" * storeys)
            self.assertEqual(machine_run(code_of(task), task.world, {})[:2], (end.guesses, end.journal))
            self.assertEqual(len(climb_table(end)), 2 ** storeys - 1)
            desk = Desk(task)
            desk.settle()
            self.assertEqual((desk.guesses, desk.standing), (end.guesses, True))

    def test_settled_claims_become_free_of_choices(self):
        book = Book.read("rel R 1\nrel S 2")
        for text in ("(every y1: R(y1) -> (R(x) and some y1: R(y1)))", "(every y1: S(x, y1) -> some y1: S(y1, x))",
                     "some y1: (R(y1) -> R(x))"):
            claim = read_formula(text)
            found = settle(book, claim).derivation
            free = without_choices(found)
            self.assertTrue(is_accepted(Library(found.book), free))
            self.assertEqual(choice_terms([free.claim]), ())
            self.assertEqual(found.claim, tell_formula(book, claim).formula)

    def test_a_desk_for_the_demands_of_a_run(self):
        told = tell(proof("chain"), {})
        world = World.read(told.book, "top 2\nf 0 0 0\ng" + " 0" * 9 + "\nR 1 1 1\nS 0 1 0 0 0 1 1 0 0")
        result = run(Library(told.book), told, world, {"m": 1})
        desk = Desk(result.climb.task)
        desk.settle()
        self.assertEqual(desk.guesses, result.climb.guesses)
        desk.set_place("S", (1, 2), False)
        desk.settle()
        again = run(Library(told.book), told, world.changed("S", (1, 2), False), {"m": 1})
        self.assertIs(again.truth, True)
        self.assertIs(desk.standing, True)
        desk.undo()
        desk.undo()
        self.assertEqual(desk.guesses, result.climb.guesses)


if __name__ == "__main__":
    unittest.main()

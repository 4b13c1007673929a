"""Point 39: what follows."""

import itertools
import random
import unittest

from support import PackageTest

from rightatlast.follows import entails
from rightatlast.formulatext import read_formula
from rightatlast.pieces import atoms_of


def follows(formula, *premises):
    """True if the formula of a text follows from those of the others."""
    return entails([read_formula(text) for text in premises], read_formula(formula))


def truth(formula, table):
    """The truth of a formula by a table of its atoms."""
    if formula.text in table:
        return table[formula.text]
    truths = [truth(part, table) for part in formula.parts]
    return {"not": not truths[0], "and": all(truths), "or": any(truths), "if": not truths[0] or truths[-1]}[formula.kind]


class FollowsTest(PackageTest):

    def yes(self, formula, *premises):
        """The formula follows."""
        self.assertIs(follows(formula, *premises), True, (formula, premises))

    def no(self, formula, *premises):
        """The formula does not follow."""
        self.assertIs(follows(formula, *premises), False, (formula, premises))

    def test_consequences(self):
        self.yes("R(y)", "R(x)", "(R(x) -> R(y))")
        self.yes("not R(x)", "(R(x) -> R(y))", "not R(y)")
        self.yes("(R(x) and R(y))", "R(y)", "R(x)")
        self.yes("R(x)", "(R(x) and R(y))")
        self.yes("R(y)", "(R(x) and R(y))")
        self.yes("(R(x) or R(y))", "R(y)")
        self.yes("R(y)", "(R(x) or R(y))", "not R(x)")
        self.yes("R(z)", "(R(x) or R(y))", "(R(x) -> R(z))", "(R(y) -> R(z))")
        self.yes("R(x)", "not not R(x)")
        self.yes("S(x, y)", "R(x)", "not R(x)")
        self.yes("(not R(x) or not R(y))", "not (R(x) and R(y))")
        self.yes("(R(x) and not R(y))", "not (R(x) -> R(y))")

    def test_what_does_not_follow(self):
        self.no("R(x)", "R(y)")
        self.no("R(x)", "R(y)", "(R(x) -> R(y))")
        self.no("R(x)", "(R(x) or R(y))")
        self.no("not R(y)", "(R(x) -> R(y))", "not R(x)")
        self.no("(R(x) and R(y))", "R(x)")
        self.no("not R(x)", "not (R(x) and R(y))")
        self.no("(R(x) -> R(y))", "(R(y) -> R(x))")

    def test_no_formulas_at_all(self):
        self.yes("(R(x) or not R(x))")
        self.yes("(((R(x) -> R(y)) -> R(x)) -> R(x))")
        self.yes("((R(x) -> R(y)) or (R(y) -> R(x)))")
        self.no("R(x)")
        self.no("not R(x)")
        self.no("(R(x) -> R(y))")

    def test_atoms_with_different_texts_are_different(self):
        self.no("3 = n", "n = 3")
        self.no("n <= 4", "n <= 3")
        self.no("x = x")
        self.no("R(x)", "x = y", "R(y)")
        self.no("not 1 = 0")
        self.yes("x = 8", "x = 5 + 3")

    def test_quantified_formulas_are_atoms(self):
        self.yes("R(x)", "some y1: R(y1)", "(some y1: R(y1) -> R(x))")
        self.yes("(some y1: R(y1) or R(x))", "some y1: R(y1)")
        self.no("some y1: R(y1)", "R(x)")
        self.no("some y2: R(y2)", "some y1: R(y1)")
        self.no("R(x)", "every y1: R(y1)")
        self.no("not every y1: not R(y1)", "some y1: R(y1)")
        self.no("some y1: (R(y1) or S(x, y1))", "some y1: R(y1)")
        self.no("every y1: (R(y1) or not R(y1))")
        self.yes("(every y1: R(y1) -> every y1: R(y1))")

    def test_free_letters(self):
        self.yes("R(y1)", "(R(y1) and R(y2))")

    def test_what_is_within_quantified_formulas_is_not_counted(self):
        inner = "some y1: (R(y1) or (" * 1 + "S(y1, 0) or S(y1, 1)))"
        many = [f"S(x, {number})" for number in range(9)]
        self.yes(inner, inner, *many)


class ManyAtomsTest(PackageTest):

    def test_10_and_11_atoms(self):
        ten = [f"R({number})" for number in range(10)]
        self.assertTrue(follows("R(9)", *ten))
        self.assertTrue(follows("(R(3) and R(7))", *ten))
        self.assertFalse(follows("not R(9)", *ten))
        self.assertFalse(follows("R(9)", *ten, "R(10)"))
        self.assertFalse(follows("(R(0) or not R(0))", *ten, "R(10)"))
        self.assertFalse(follows("(R(10) or R(0))", *ten))
        self.assertTrue(follows("(R(9) or R(0))", *ten))

    def test_atoms_that_stand_in_several_formulas_count_once(self):
        rows = [f"(R({number}) -> R({number + 1}))" for number in range(9)]
        self.assertTrue(follows("(R(0) -> R(9))", *rows))
        self.assertFalse(follows("(R(9) -> R(0))", *rows))
        rows.append("(R(9) -> R(10))")
        self.assertFalse(follows("(R(0) -> R(10))", *rows))

    def test_long_lists(self):
        self.assertTrue(entails([read_formula("R(x)")] * 2000, read_formula("R(x)")))

    def test_the_list_is_not_changed(self):
        formulas = [read_formula("R(x)"), read_formula("R(y)")]
        entails(formulas, read_formula("R(x)"))
        self.assertEqual([formula.text for formula in formulas], ["R(x)", "R(y)"])

    def test_random_formulas(self):
        source = random.Random(7)
        atoms = [read_formula(text) for text in ("x = y", "y <= x", "R(x)", "S(x, y)", "some y1: R(y1)")]
        answers = []
        for _ in range(400):
            formulas = []
            for _ in range(source.randrange(1, 5)):
                formula = source.choice(atoms)
                for _ in range(source.randrange(5)):
                    other = source.choice(atoms)
                    formula = source.choice([formula & other, formula | other, formula >> other, other >> formula, ~formula])
                formulas.append(formula)
            texts = [atom.text for atom in atoms_of(formulas)]
            expected = True
            for truths in itertools.product([True, False], repeat=len(texts)):
                table = dict(zip(texts, truths))
                if all(truth(one, table) for one in formulas[1:]) and not truth(formulas[0], table):
                    expected = False
            self.assertIs(entails(formulas[1:], formulas[0]), expected)
            answers.append(expected)
        self.assertGreater(min(answers.count(True), answers.count(False)), 50)


if __name__ == "__main__":
    unittest.main()

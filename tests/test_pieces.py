"""Point 10, and in point 38 what it says of members."""

import unittest

from support import PackageTest

from rightatlast.formulatext import read_formula
from rightatlast.pieces import atoms_of, choice_terms, members_of
from rightatlast.termtext import read_term


def texts(things):
    """The texts of the things of a tuple."""
    return [thing.text for thing in things]


class ChoiceTermsTest(PackageTest):

    def test_pieces_ahead_of_wholes(self):
        term = read_term("Ca(Cb(Cc), f(Cd + 1), Ce(x))")
        self.assertEqual(texts(choice_terms([term])),
                         ["Cc", "Cb(Cc)", "Cd", "Ce(x)", "Ca(Cb(Cc), f(Cd + 1), Ce(x))"])
        self.assertEqual(texts(choice_terms([read_term("Ca")])), ["Ca"])
        self.assertEqual(texts(choice_terms([read_term("Ca(Ca(Ca))")])), ["Ca", "Ca(Ca)", "Ca(Ca(Ca))"])

    def test_things_in_their_order_equal_ones_once(self):
        things = [read_term("f(Cb, Ca)"), read_formula("(Cc = Ca -> R(Ca(Cd), Cb))"), read_term("Ce"), read_term("Cd")]
        self.assertEqual(texts(choice_terms(things)), ["Cb", "Ca", "Cc", "Cd", "Ca(Cd)", "Ce"])
        self.assertEqual(texts(choice_terms(list(reversed(things)))), ["Cd", "Ce", "Cc", "Ca", "Ca(Cd)", "Cb"])

    def test_all_kinds_of_formulas(self):
        formula = read_formula("(not Ca <= Cb + 1 or some y1: (R(Cc(y1)) and every y2: Cd(Ce) = y2))")
        self.assertEqual(texts(choice_terms([formula])), ["Ca", "Cb", "Cc(y1)", "Ce", "Cd(Ce)"])

    def test_none(self):
        self.assertEqual(choice_terms([]), ())
        self.assertEqual(choice_terms([read_term("f(x + 1)"), read_formula("x = y1")]), ())

    def test_a_list_that_is_changed_afterwards(self):
        things = [read_term("Ca")]
        found = choice_terms(things)
        things.append(read_term("Cb"))
        things[0] = read_term("Cc")
        self.assertEqual(texts(found), ["Ca"])
        self.assertIs(type(found), tuple)
        self.assertEqual(texts(choice_terms(things)), ["Cc", "Cb"])


class AtomsTest(PackageTest):

    def test_from_left_to_right_equal_ones_once(self):
        first = read_formula("((x = y -> not R(x)) and (y = x or R(x)))")
        second = read_formula("not (y <= x -> x = y)")
        self.assertEqual(texts(atoms_of([first, second])), ["x = y", "R(x)", "y = x", "y <= x"])
        self.assertEqual(texts(atoms_of([second, first])), ["y <= x", "x = y", "R(x)", "y = x"])
        self.assertEqual(texts(atoms_of([read_formula("R(x)")])), ["R(x)"])
        self.assertEqual(atoms_of([]), ())

    def test_quantified_formulas_as_one_atom(self):
        text = "some y1: (R(y1) and x = y1)"
        formula = read_formula(f"((R(x) or not {text}) -> ({text} and every y1: R(y1)))")
        self.assertEqual(texts(atoms_of([formula])), ["R(x)", text, "every y1: R(y1)"])
        self.assertEqual(texts(atoms_of([read_formula(text)])), [text])

    def test_a_list_that_is_changed_afterwards(self):
        formulas = [read_formula("x = y")]
        found = atoms_of(formulas)
        formulas.clear()
        self.assertEqual(texts(found), ["x = y"])
        self.assertIs(type(found), tuple)


class MembersTest(PackageTest):

    def test_nested_disjunctions(self):
        formula = read_formula("((R(x) or (x = y or R(y))) or (R(x) or not R(x)))")
        self.assertEqual(texts(members_of(formula)), ["R(x)", "x = y", "R(y)", "not R(x)"])

    def test_other_formulas_are_their_own_members(self):
        for text in ("R(x)", "not (R(x) or R(y))", "(R(x) and (R(y) or R(x)))", "(R(x) -> (R(y) or R(x)))",
                     "some y1: (R(y1) or R(x))"):
            self.assertEqual(texts(members_of(read_formula(text))), [text])
        self.assertIs(type(members_of(read_formula("(R(x) or R(y))"))), tuple)

    def test_members_that_are_no_atoms(self):
        formula = read_formula("(some y1: (R(y1) or R(x)) or ((R(x) or R(y)) or (R(x) and (R(y) or R(x)))))")
        self.assertEqual(texts(members_of(formula)),
                         ["some y1: (R(y1) or R(x))", "R(x)", "R(y)", "(R(x) and (R(y) or R(x)))"])


if __name__ == "__main__":
    unittest.main()

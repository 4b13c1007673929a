"""Point 40: validity in order."""

import itertools
import random
import unittest

from support import PackageTest

from rightatlast.errors import HasLetters, NotPlain, TooWide, UnknownName
from rightatlast.formulas import Formula
from rightatlast.formulatext import read_formula
from rightatlast.orders import order_gap


def number_of(term, numbers):
    """The number of a side of an atom."""
    if term.text in numbers:
        return numbers[term.text]
    return term.number if term.kind == "number" else numbers[term.parts[0].text] + term.number


def truth(formula, numbers):
    """The truth of a formula if its opaque terms stand for these numbers."""
    if formula.terms:
        left, right = [number_of(term, numbers) for term in formula.terms]
        return left == right if formula.kind == "same" else left <= right
    truths = [truth(part, numbers) for part in formula.parts]
    return {"not": not truths[0], "and": all(truths), "or": any(truths), "if": not truths[0] or truths[-1]}[formula.kind]


class OrderTest(PackageTest):

    def valid(self, *texts):
        """These formulas are valid in order."""
        for text in texts:
            with self.subTest(text=text):
                self.assertIsNone(order_gap(read_formula(text)))

    def gap(self, text, *opaque):
        """The formula is not valid; it has these opaque terms, and the numbers that are told make it false."""
        formula = read_formula(text)
        numbers = order_gap(formula)
        self.assertIs(type(numbers), dict, text)
        self.assertEqual(tuple(numbers), opaque, text)
        self.assertTrue(all(type(number) is int and number >= 0 for number in numbers.values()), text)
        self.assertIs(truth(formula, numbers), False, f"{text}: {numbers}")

    def test_a_term_against_itself(self):
        self.valid("x = x", "x <= x", "x <= x + 1", "x + 3 <= x + 3", "not x + 1 <= x", "not x = x + 1",
                   "not x + 1 = x", "f(x, y) <= f(x, y) + 9", "Low(x) + 2 = Low(x) + 2")
        self.gap("x + 1 <= x", "x")
        self.gap("x = x + 1", "x")
        self.gap("not x = x", "x")
        self.gap("not x <= x + 3", "x")
        self.gap("x + 3 <= x + 2", "x")

    def test_written_numbers_on_both_sides(self):
        self.valid("3 = 3", "2 <= 3", "not 3 = 2", "not 3 <= 2", "(3 = 2 -> x = y)", "99 <= 99", "0 <= 99")
        self.gap("3 = 2")
        self.gap("3 <= 2")
        self.gap("not 2 <= 3")
        self.gap("(3 <= 2 or not 7 = 7)")

    def test_written_numbers_and_terms(self):
        self.valid("0 <= x", "0 <= x + 3", "3 <= x + 3", "(x <= 0 -> x = 0)", "(x = 3 -> x <= 5)", "not x + 1 <= 0",
                   "not x + 1 = 0", "(x <= 2 or 3 <= x)", "(not x <= 98 -> 99 <= x)", "not x + 5 = 3", "not x + 5 <= 4")
        self.gap("x <= 99", "x")
        self.gap("1 <= x", "x")
        self.gap("(x <= 2 or 4 <= x)", "x")
        self.gap("4 <= x + 3", "x")
        self.gap("x = 0", "x")
        self.gap("not x = 7", "x")
        self.gap("not x + 5 = 5", "x")
        self.gap("not x + 2 = 8", "x")

    def test_chains(self):
        self.valid("((x <= y and y <= z) -> x <= z)", "((x <= y and y <= z) -> x <= z + 1)",
                   "((x + 1 <= y and y + 1 <= z) -> x + 2 <= z)", "((x + 1 <= y and y + 1 <= z) -> not z <= x + 1)",
                   "((x <= y and (y <= z and z <= x)) -> x = y)", "not (x + 1 <= y and (y <= z and z <= x))",
                   "((x <= y and (y <= z and z <= w)) -> x <= w)")
        self.gap("((x <= y and y <= z) -> z <= x)", "x", "y", "z")
        self.gap("((x + 1 <= y and y + 1 <= z) -> x + 3 <= z)", "x", "y", "z")
        self.gap("not (x + 1 <= y and (y <= z and z <= x + 1))", "x", "y", "z")
        self.gap("((x <= y and (y <= z and z <= w)) -> w <= x)", "x", "y", "z", "w")

    def test_equalities(self):
        self.valid("(x = y -> y = x)", "((x = y and y = z) -> x = z)", "(x = y -> x + 1 = y + 1)",
                   "(x + 3 = y + 5 -> x = y + 2)", "((x <= y and y <= x) -> x = y)", "(x = y -> (x <= y and y <= x))",
                   "(x = 3 -> not x = 4)", "((x = 3 and y = 3) -> x = y)")
        self.gap("((x = y and y = z) -> not x = z)", "x", "y", "z")
        self.gap("(x + 3 = y + 5 -> x = y + 1)", "x", "y")
        self.gap("((x = 3 and y = 4) -> x = y)", "x", "y")

    def test_denials(self):
        self.valid("(not x <= y -> y + 1 <= x)", "(not x <= y -> y <= x)", "(x <= y or y <= x)",
                   "(not x = y -> (x + 1 <= y or y + 1 <= x))", "(x = y or (x + 1 <= y or y + 1 <= x))",
                   "(not (x + 1 <= y or y + 1 <= x) -> x = y)", "((not x = y and x <= y) -> x + 1 <= y)",
                   "((not x = 0 and x <= 1) -> x = 1)", "(not x = 0 -> 1 <= x)")
        self.gap("(not x <= y -> y + 2 <= x)", "x", "y")
        self.gap("(not x = y -> x <= y)", "x", "y")
        self.gap("(not x = y -> y <= x)", "x", "y")
        self.gap("((not x = y and not y = z) -> not x = z)", "x", "y", "z")
        self.gap("(not x = 1 -> 2 <= x)", "x")
        self.gap("(x = y or x + 1 <= y)", "x", "y")

    def test_two_denials_of_equalities(self):
        # Each denial of an equality leaves two strict orders.
        self.valid("(x <= 2 -> (x = 0 or (x = 1 or x = 2)))")
        self.gap("(x <= 3 -> (x = 0 or (x = 1 or x = 2)))", "x")
        self.gap("(x <= 3 -> (x = 0 or (x = 1 or x = 3)))", "x")
        self.gap("(not x = y or (not y = z or not z = w))", "x", "y", "z", "w")

    def test_opaque_terms(self):
        self.gap("f(x) + 2 <= y", "f(x)", "y")
        self.gap("g(Low(x), y) = Low(g(x, y)) + 1", "g(Low(x), y)", "Low(g(x, y))")
        self.gap("(f(x) <= f(y) or x = y)", "f(x)", "f(y)", "x", "y")
        self.valid("(f(x) <= Up -> f(x) <= Up + 1)", "(x = y -> (f(x) <= f(y) or f(y) <= f(x)))")
        # What is within opaque terms does not matter.
        self.gap("(x = y -> f(x) = f(y))", "x", "y", "f(x)", "f(y)")
        self.gap("f(2 + 1) = f(4)", "f(3)", "f(4)")

    def test_opaque_terms_in_the_order_of_the_text(self):
        self.gap("(z <= y + 1 and (x + 3 = z or f(z) <= 7))", "z", "y", "x", "f(z)")
        self.gap("not (a + 1 <= b and (b = a + 1 or c <= a))", "a", "b", "c")

    def test_terms_that_do_not_matter_have_numbers_too(self):
        self.gap("(x = y or (1 = 2 and z <= w))", "x", "y", "z", "w")
        self.gap("((z <= z and f(u) <= f(u) + 1) -> 1 = 0)", "z", "f(u)")

    def test_large_numbers(self):
        self.gap("not (99 = x and (x + 9 <= y and (y + 9 <= z and z + 9 <= w)))", "x", "y", "z", "w")
        self.assertEqual(order_gap(read_formula("not (x + 9 <= y and (y + 9 <= z and 90 <= x))"))["z"] >= 108, True)

    def test_all_kinds_of_formulas(self):
        self.valid("((x = y and y <= z) or (not x = y or not y <= z))", "((x <= y -> y <= z) or (x <= y and not y <= z))")
        self.gap("((x <= y -> y <= z) and (x <= y or y <= z))", "x", "y", "z")

    def test_random_formulas(self):
        source = random.Random(11)
        answers = []
        for _ in range(1500):
            formula = self.some_formula(source)
            names = formula.names
            numbers = order_gap(formula)
            found = [dict(zip(names, values)) for values in itertools.product(range(10), repeat=len(names))]
            if numbers is None:
                self.assertTrue(all(truth(formula, one) for one in found), formula.text)
            else:
                self.assertEqual(tuple(numbers), names)
                self.assertIs(truth(formula, numbers), False, formula.text)
            answers.append(numbers is None)
        self.assertGreater(answers.count(True), 100)
        self.assertGreater(answers.count(False), 100)

    def some_formula(self, source):
        """A formula of at most four atoms with at most three names."""
        atoms = []
        for _ in range(source.randrange(1, 5)):
            sides = []
            for _ in range(2):
                word = source.choice(["x", "y", "z"])
                sides.append(source.choice([word, word, f"{word} + {source.randrange(1, 4)}", str(source.randrange(4))]))
            atoms.append(read_formula(f"{sides[0]} {source.choice(['=', '<=', '<='])} {sides[1]}"))
        formula = source.choice(atoms)
        for _ in range(source.randrange(6)):
            other = source.choice(atoms)
            formula = source.choice([formula | other, formula & other, formula >> other, other >> formula, ~formula])
        return formula


class ErrorsTest(PackageTest):

    def refused(self, kind, fields, text):
        """The formula of this text is refused."""
        self.refuses(kind, fields, order_gap, read_formula(text))

    def test_each_error(self):
        self.refused(NotPlain, {}, "some y1: y1 = x")
        self.refused(NotPlain, {}, "(x = y and not every y1: y1 <= x)")
        self.refused(HasLetters, {"letter": "y1"}, "(x = y1 and y0 = y1)")
        self.refused(HasLetters, {"letter": "p1"}, "f(p1) + 1 = x")
        self.refused(TooWide, {}, "(x = y and (x = z and (x = u and (x = v and x = w))))")
        self.refused(UnknownName, {"name": "R"}, "(x = y or (R(x) and S(x, y)))")
        self.refused(UnknownName, {"name": "S"}, "not (S(x, y) or (x = y -> R(x)))")

    def test_four_atoms_and_five(self):
        self.assertIsNone(order_gap(read_formula("(x = y -> (x = y or (x = z or (x = u or (x = v or x = y)))))")))
        self.refused(TooWide, {}, "(x = y -> (x = y or (x = z or (x = u or (x = v or y = x)))))")
        self.refused(TooWide, {}, "(x = y -> (x = y or (x = z or (x = u or (x = v or R(x))))))")

    def test_the_order_of_the_errors(self):
        wide = "(x = z and (x = u and (x = v and (x = w and R(x)))))"
        self.refused(NotPlain, {}, f"(some y1: y1 = y2 and {wide})")
        self.refused(HasLetters, {"letter": "y2"}, f"(x = y2 and {wide})")
        self.refused(TooWide, {}, wide)
        self.refused(UnknownName, {"name": "R"}, "(x = z and (x = u and R(x)))")

    def test_a_new_dict_each_time(self):
        formula = Formula.same(read_formula("x = y").terms[0], read_formula("x = y").terms[1])
        order_gap(formula)["x"] = 700
        self.assertLess(order_gap(formula)["x"], 700)


if __name__ == "__main__":
    unittest.main()

"""Point 60: claims of relations and their truth."""

import itertools
import random
import unittest

from support import PackageTest

from rightatlast.books import Book
from rightatlast.errors import BadInput, MissingInput, NotRelational, Unfit
from rightatlast.formulatext import read_formula
from rightatlast.relations import holds_in, is_relational
from rightatlast.worlds import World

BOOK = Book.read("fun f 1\nrel R 1\nrel S 2\npick Low 1: f(y0) <= p1")
WORLD = World.read(BOOK, "top 2\nf 1 2 0\nR 0 1 1\nS 0 1 0 0 0 1 1 1 1")


class KindTest(PackageTest):

    def test_claims_of_relations(self):
        for text in ("R(x)", "S(x, x)", "not (R(x) and S(y, z))", "some y1: R(y1)", "every y1: S(y1, x)",
                     "(some y1: R(y1) -> every y1: (R(y1) or S(x, y1)))", "not some p1: not S(p1, p1)",
                     "Q(x)", "every y1: (Q(y1, x) -> not Q(x, y1))"):
            self.assertIs(is_relational(read_formula(text)), True, text)

    def test_other_formulas(self):
        for text in ("R(y1)", "(some y1: R(y1) or R(y1))", "some y1: S(y1, y2)", "x = x", "(R(x) and x <= x)",
                     "some y1: y1 = x", "every y1: (R(y1) or y1 <= x)", "R(3)", "R(x + 1)", "S(x, f(x))", "S(Low(x), x)",
                     "R(Any)", "some y1: R(y1 + 1)", "every y1: S(y1, 0)", "some y1: R(f(y1))", "some y1: every y2: S(y1, y2)",
                     "some y1: (R(y1) and every y2: R(y2))", "(R(x) and not some y1: (R(y1) -> some y2: R(y2)))",
                     "every y1: (R(y1) or R(g(x, y1)))"):
            self.assertIs(is_relational(read_formula(text)), False, text)


class TruthTest(PackageTest):

    def has(self, truth, text, world=WORLD, **inputs):
        """A claim has this truth in a world."""
        self.assertIs(holds_in(world, inputs, read_formula(text)), truth, text)

    def test_names(self):
        for number in (0, 1, 2, 3, 99):
            self.has(number > 0, "R(x)", x=number)
        self.has(True, "S(x, y)", x=0, y=1)
        self.has(False, "S(x, y)", x=1, y=0)
        self.has(True, "S(x, y)", x=50, y=0, z=9)

    def test_quantifiers(self):
        self.has(True, "some y1: R(y1)")
        self.has(False, "every y1: R(y1)")
        self.has(False, "some y1: (R(y1) and not R(y1))")
        self.has(True, "every y1: (R(y1) or not R(y1))")
        # The last number counts, and the first one.
        self.has(True, "every y1: S(x, y1)", x=2)
        self.has(False, "every y1: S(x, y1)", x=1)
        self.has(True, "some y1: S(y1, y1)")
        self.has(False, "every y1: S(y1, y1)")
        self.has(True, "every y1: (R(y1) or S(y1, x))", x=1)
        self.has(False, "every y1: (R(y1) or S(y1, x))", x=0)

    def test_several_quantifiers(self):
        self.has(True, "(some y1: R(y1) and not every y1: R(y1))")
        self.has(False, "(some y1: R(y1) -> every y1: R(y1))")
        self.has(True, "(every y1: R(y1) -> some y1: R(y1))")
        self.has(True, "(every y1: S(x, y1) or some y1: S(x, y1))", x=0)
        self.has(True, "(R(x) -> (some y1: S(x, y1) and every y2: S(y2, x)))", x=0)
        # The same letter and another one in several places.
        self.has(False, "(every y1: (S(y1, x) -> S(x, y1)) and some y2: S(y2, x))", x=1)
        self.has(True, "(every y1: (S(x, y1) -> R(y1)) and some y1: (S(x, y1) and R(y1)))", x=0)

    def test_a_name_that_looks_like_a_word_of_a_letter(self):
        self.has(True, "(some y1: R(y1) and R(y))", y=1)
        self.has(False, "(some y1: R(y1) and R(y))", y=0)

    def test_against_all_numbers(self):
        source = random.Random(60)
        for _ in range(60):
            top = source.randrange(3)
            places = top + 1
            rows = [f"top {top}", "f " + " ".join("0" * places), "R " + " ".join(source.choice("01") for _ in range(places)),
                    "S " + " ".join(source.choice("01") for _ in range(places * places))]
            world = World.read(BOOK, "\n".join(rows))
            for kind, join in (("some", any), ("every", all)):
                for x in range(4):
                    expected = join([world.at("S", x, y) and not world.at("R", y) for y in range(12)])
                    self.has(expected, f"{kind} y1: (S(x, y1) and not R(y1))", world, x=x)
                    expected = join([not world.at("R", y) or world.at("S", y, y) for y in range(12)]) and world.at("R", x)
                    self.has(expected, f"({kind} y3: (R(y3) -> S(y3, y3)) and R(x))", world, x=x)

    def test_nothing_is_changed(self):
        inputs = {"x": 1}
        holds_in(WORLD, inputs, read_formula("some y1: S(x, y1)"))
        self.assertEqual(inputs, {"x": 1})


class ErrorsTest(PackageTest):

    def test_the_order_of_the_errors(self):
        wrong = read_formula("(T(x) or f(x) = 3)")
        self.refuses(BadInput, {"name": "X"}, holds_in, WORLD, {"a": 99, "X": 1, "b": 100}, wrong)
        self.refuses(BadInput, {"name": "b"}, holds_in, WORLD, {"a": 99, "b": 100}, wrong)
        self.refuses(NotRelational, {}, holds_in, WORLD, {}, wrong)
        self.refuses(NotRelational, {}, holds_in, WORLD, {}, read_formula("T(y1)"))
        self.refuses(Unfit, {"name": "T"}, holds_in, WORLD, {}, read_formula("(R(x) or some y1: (T(y1) and R(y1, x)))"))
        self.refuses(Unfit, {"name": "R"}, holds_in, WORLD, {}, read_formula("(R(x, z) or T(x))"))
        self.refuses(MissingInput, {"name": "b"}, holds_in, WORLD, {"a": 1, "z": 1},
                     read_formula("(S(a, b) or some y1: S(y1, c))"))
        self.refuses(MissingInput, {"name": "c"}, holds_in, WORLD, {"a": 1, "b": 1},
                     read_formula("(S(a, b) or some y1: S(y1, c))"))

    def test_all_inputs_count(self):
        for inputs in itertools.permutations([("x", 1), ("u", 100)]):
            self.refuses(BadInput, {"name": "u"}, holds_in, WORLD, dict(inputs), read_formula("R(x)"))


if __name__ == "__main__":
    unittest.main()

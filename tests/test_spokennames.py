"""Points 51 and 52: boxes of spoken derivations, and the names that their lines may use."""

import random
import unittest

from mutations import mutated
from proofs import BOOK, PROOFS, SlowExamination, proof
from support import PackageTest

from rightatlast.errors import RightatlastError, WrongLine
from rightatlast.spoken import Spoken
from rightatlast.spokennames import names_at, spoken_boxes


def spoken(inputs, *rows):
    """The spoken derivation of some rows."""
    return Spoken.read(BOOK, inputs, "\n".join(rows))


class BoxesTest(PackageTest):

    def test_boxes_of_both_kinds(self):
        rows = ["R(a) ; order", "| R(a) ; assume", "| | fresh x", "| | R(x) ; order", "| | | R(x) ; assume",
                "| | | | fresh z", "| | R(x) ; order", "| | fresh u", "| fresh v", "R(a) ; order"]
        found = [spoken_boxes(spoken([], *rows), number) for number in range(1, 11)]
        self.assertEqual(found, [(), (2,), (2, 3), (2, 3), (2, 3, 5), (2, 3, 5, 6), (2, 3), (2, 8), (9,), ()])

    def test_boxes_that_end_together(self):
        rows = ["| fresh x", "| | fresh z", "| | | R(x) ; assume", "R(a) ; every 1", "| R(a) ; assume", "| R(b) ; assume"]
        found = [spoken_boxes(spoken([], *rows), number) for number in range(1, 7)]
        self.assertEqual(found, [(1,), (1, 2), (1, 2, 3), (), (5,), (6,)])

    def test_other_reasons_open_no_boxes(self):
        for reason in ("some 1 by x", "take 1 as x", "every 1", "induct 1 1 to 3", "cases 1 1", "follows"):
            made = spoken([], "| R(x) ; assume", f"| R(x) ; {reason}", f"R(x) ; {reason}")
            self.assertEqual([spoken_boxes(made, number) for number in (2, 3)], [(1,), ()])

    def test_bad_depths(self):
        for first in ("fresh x", "R(x) ; assume", "| R(x) ; order", "| | fresh x", "| | R(x) ; assume"):
            made = spoken([], first, "R(x) ; order")
            for number in (1, 2):
                self.refuses(WrongLine, {"line": 1}, spoken_boxes, made, number)
                self.refuses(WrongLine, {"line": 1}, names_at, made, number)
        rows = ["| R(x) ; assume", "| | fresh x", "R(x) ; order", "| R(x) ; order", "fresh x", "R(x) ; order"]
        made = spoken([], *rows)
        self.assertEqual([spoken_boxes(made, number) for number in (1, 2, 3)], [(1,), (1, 2), ()])
        for number in (4, 5, 6):
            self.refuses(WrongLine, {"line": 4}, spoken_boxes, made, number)
            self.refuses(WrongLine, {"line": 4}, names_at, made, number)

    def test_a_fresh_line_of_depth_0_within_a_box(self):
        made = spoken([], "| R(x) ; assume", "fresh x", "R(x) ; order")
        self.refuses(WrongLine, {"line": 2}, spoken_boxes, made, 3)
        self.assertEqual(spoken_boxes(made, 1), (1,))

    def test_other_rules_are_not_examined(self):
        # Neither the depth of the last line, nor how fresh boxes end, nor what the lines say.
        made = spoken([], "| fresh x", "| fresh x", "| | R(u) ; assume", "| R(u) ; every 7")
        self.assertEqual([spoken_boxes(made, number) for number in (2, 3, 4)], [(2,), (2, 3), (2,)])
        self.assertEqual(names_at(made, 4), ("x",))


class NamesTest(PackageTest):

    def test_inputs(self):
        self.assertEqual(names_at(spoken(["z", "a", "m"], "R(x) ; order"), 1), ("a", "m", "z"))
        self.assertEqual(names_at(spoken([], "R(x) ; order"), 1), ())
        self.assertIsInstance(names_at(spoken(["a"], "R(x) ; order"), 1), tuple)

    def test_fresh_boxes(self):
        rows = ["| fresh x", "| R(x) ; order", "| | fresh u", "| | R(x) ; order", "| R(a) ; every 3", "R(a) ; every 1",
                "| fresh v", "R(a) ; every 7"]
        made = spoken(["a"], *rows)
        self.assertEqual([names_at(made, number) for number in range(1, 9)],
                         [("a", "x"), ("a", "x"), ("a", "u", "x"), ("a", "u", "x"), ("a", "x"), ("a",), ("a", "v"), ("a",)])

    def test_take_lines(self):
        rows = ["| R(a) ; assume", "| R(u) ; take 1 as u", "| | R(a) ; assume", "| | R(v) ; take 1 as v", "| | R(a) ; order",
                "| R(w) ; take 2 as w", "| | R(a) ; assume", "R(a) ; if 1", "R(z) ; take 8 as z", "R(a) ; order"]
        made = spoken(["a"], *rows)
        self.assertEqual([names_at(made, number) for number in range(1, 11)],
                         [("a",), ("a", "u"), ("a", "u"), ("a", "u", "v"), ("a", "u", "v"), ("a", "u", "w"), ("a", "u", "w"),
                          ("a",), ("a", "z"), ("a", "z")])

    def test_take_lines_within_fresh_boxes(self):
        rows = ["| fresh x", "| R(u) ; take 1 as u", "| | fresh z", "| | R(v) ; take 1 as v", "| R(a) ; every 3",
                "R(a) ; every 1"]
        made = spoken([], *rows)
        self.assertEqual([names_at(made, number) for number in range(1, 7)],
                         [("x",), ("u", "x"), ("u", "x", "z"), ("u", "v", "x", "z"), ("u", "x"), ()])

    def test_names_that_are_made_twice(self):
        rows = ["| fresh x", "R(x) ; every 1", "R(x) ; take 1 as x", "| fresh x", "| | R(x) ; assume", "| R(x) ; take 4 as a",
                "R(x) ; take 1 as x", "R(x) ; order", "| fresh x", "R(x) ; every 9"]
        made = spoken(["a"], *rows)
        self.assertEqual([names_at(made, number) for number in range(1, 11)], [("a", "x"), ("a",)] + [("a", "x")] * 8)
        made = spoken(["x"], "| fresh x", "R(x) ; every 1")
        self.assertEqual([names_at(made, number) for number in (1, 2)], [("x",), ("x",)])

    def test_the_names_of_lines_that_are_wrong(self):
        # It is not examined whether what a take line cites may be cited, or has a quantifier.
        made = spoken([], "R(x) ; take 99 as u", "R(x) ; order")
        self.assertEqual(names_at(made, 2), ("u",))

    def test_names_are_ordered_as_strings(self):
        made = spoken(["b", "ab", "a", "aa"], "| fresh ba", "| R(x) ; take 1 as abc")
        self.assertEqual(names_at(made, 2), ("a", "aa", "ab", "abc", "b", "ba"))

    def test_the_proofs(self):
        made = proof("nested")
        self.assertEqual([names_at(made, number) for number in (1, 2, 5, 9, 11, 12, 13, 14)],
                         [(), ("w",), ("w", "x"), ("w", "x", "z"), ("w", "x"), ("w", "x"), ("w",), ()])
        self.assertEqual(spoken_boxes(made, 9), (1, 3, 6, 7))

    def test_against_the_slow_examination(self):
        source = random.Random(52)
        bad_ones = 0
        for count in range(200):
            inputs, text = PROOFS[source.choice(list(PROOFS))]
            rows = text.split("\n")
            for _ in range(count % 4):
                rows, inputs = mutated(source, rows, inputs)
            try:
                made = spoken(inputs, *rows)
            except RightatlastError:
                continue
            slow = SlowExamination(made)
            wrong = [number for number in range(1, len(made) + 1) if not slow.depth_obeys(number)]
            for number in range(1, len(made) + 1):
                if wrong and number >= wrong[0]:
                    self.refuses(WrongLine, {"line": wrong[0]}, spoken_boxes, made, number)
                    self.refuses(WrongLine, {"line": wrong[0]}, names_at, made, number)
                    bad_ones += 1
                else:
                    self.assertEqual(spoken_boxes(made, number), tuple(slow.within(number)))
                    self.assertEqual(names_at(made, number), tuple(sorted(slow.usable(number))))
        self.assertGreater(bad_ones, 10)


if __name__ == "__main__":
    unittest.main()

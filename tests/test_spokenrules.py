"""Points 51 to 53: right and wrong lines of spoken derivations."""

import random
import unittest

from mutations import mutated
from proofs import BOOK, PROOFS, SlowExamination, proof
from support import PackageTest, term_text_of_length

from rightatlast.books import Book
from rightatlast.errors import RightatlastError
from rightatlast.spoken import Spoken
from rightatlast.spokenrules import first_wrong_spoken


def term_of_pieces(count):
    """The text of a term of so many pieces, an odd number, with the name n alone."""
    leaves = ["n"] * ((count + 1) // 2)
    while len(leaves) > 1:
        leaves = [f"g({first}, {second})" for first, second in zip(leaves[::2], leaves[1::2])] + leaves[len(leaves) // 2 * 2:]
    return leaves[0]


class RulesTest(PackageTest):

    inputs = ["n", "m"]

    def wrong(self, number, *rows):
        """The first wrong line of some rows has this number, or there is none if it is 0."""
        made = Spoken.read(BOOK, self.inputs, "\n".join(rows))
        self.assertEqual(first_wrong_spoken(made), number, rows)
        self.assertEqual(SlowExamination(made).first_wrong(), number, rows)

    def right(self, *rows):
        """The rows are accepted."""
        self.wrong(0, *rows)


class ProofsTest(RulesTest):

    def test_the_proofs(self):
        for name in PROOFS:
            self.assertEqual(first_wrong_spoken(proof(name)), 0, name)

    def test_changed_proofs(self):
        source = random.Random(53)
        results = []
        for count in range(700):
            inputs, text = PROOFS[source.choice(list(PROOFS))]
            rows = text.split("\n")
            for _ in range(1 + count % 2):
                rows, inputs = mutated(source, rows, inputs)
            try:
                made = Spoken.read(BOOK, inputs, "\n".join(rows))
            except RightatlastError:
                continue
            results.append(first_wrong_spoken(made))
            self.assertEqual(results[-1], SlowExamination(made).first_wrong(), made.text)
        self.assertGreater(len([one for one in results if one == 0]), 30)
        self.assertGreater(len({one for one in results if one > 0}), 12)

    def test_the_first_wrong_line_of_several(self):
        self.wrong(2, "0 = 0 ; order", "R(n) ; order", "R(n) ; order", "x = x ; order")
        self.wrong(1, "| R(n) ; follows", "0 = 0 ; order")
        self.wrong(1, "R(x) ; take 7 as x", "| | R(n) ; assume")


class DepthsTest(RulesTest):

    def test_depths_out_of_bounds(self):
        self.wrong(1, "fresh x", "0 = 0 ; order")
        self.wrong(1, "| | fresh x", "0 = 0 ; order")
        self.wrong(1, "R(n) ; assume", "0 = 0 ; order")
        self.wrong(2, "0 = 0 ; order", "| 0 = 0 ; order", "0 = 0 ; order")
        self.wrong(2, "| R(n) ; assume", "| | 0 = 0 ; order", "0 = 0 ; order")
        self.wrong(2, "| R(n) ; assume", "| | | fresh x", "0 = 0 ; order")
        self.right("| R(n) ; assume", "| 0 = 0 ; order", "0 = 0 ; order")

    def test_the_last_line(self):
        self.wrong(1, "| R(n) ; assume")
        self.wrong(2, "| R(n) ; assume", "| 0 = 0 ; order")
        self.wrong(1, "| fresh x")
        self.wrong(2, "| fresh x", "| 0 = 0 ; order")
        self.wrong(2, "0 = 0 ; order", "| fresh x")
        self.wrong(2, "0 = 0 ; order", "fresh x")
        self.right("0 = 0 ; order")


class FreshBoxesTest(RulesTest):

    def test_boxes_that_are_closed_by_every(self):
        self.right("| fresh x", "| (R(x) or not R(x)) ; follows", "every y1: (R(y1) or not R(y1)) ; every 1")
        # By another reason, at another depth, or by a line that names another box.
        self.wrong(3, "| fresh x", "| (R(x) or not R(x)) ; follows", "0 = 0 ; order", "0 = 0 ; order")
        self.wrong(3, "| fresh x", "| x = x ; order", "| R(n) ; assume", "0 = 0 ; order")
        self.wrong(3, "| fresh x", "| x = x ; order", "| fresh z", "0 = 0 ; order")
        self.wrong(3, "| R(n) ; assume", "| 0 = 0 ; order", "every y1: y1 = y1 ; every 1")
        self.wrong(4, "| R(n) ; assume", "| | fresh x", "| | x = x ; order", "every y1: y1 = y1 ; every 2")
        self.wrong(3, "| fresh x", "| x = x ; order", "every y1: y1 = y1 ; every 2")
        self.wrong(3, "| fresh x", "| x = x ; order", "every y1: y1 = y1 ; every 3", "0 = 0 ; order")
        self.wrong(3, "| fresh x", "| x = x ; order", "(R(n) or not R(n)) ; follows")
        self.wrong(3, "| fresh x", "| x = x ; order", "x = x ; among 2")
        self.wrong(4, "0 = 0 ; order", "| fresh x", "| x = x ; order", "every y1: y1 = y1 ; every 1")

    def test_two_boxes_that_end_together(self):
        rows = ["| fresh x", "| | fresh z", "| | (R(x) or not R(x)) ; follows"]
        self.wrong(4, *rows, "every y1: (R(y1) or not R(y1)) ; every 1")
        self.wrong(4, *rows, "every y1: (R(y1) or not R(y1)) ; every 2")
        self.right("| fresh x", "| | fresh z", "| | (S(x, z) or not S(x, z)) ; follows",
                   "| every y1: (S(x, y1) or not S(x, y1)) ; every 2", "every y2: every y1: (S(y2, y1) or not S(y2, y1)) ; every 1")
        # A fresh box and the assume box around it.
        self.wrong(4, "| R(n) ; assume", "| | fresh x", "| | (R(x) or not R(x)) ; follows",
                   "every y1: (R(y1) or not R(y1)) ; every 2")
        self.wrong(4, "| R(n) ; assume", "| | fresh x", "| | (R(x) or not R(x)) ; follows", "(R(n) -> R(n)) ; if 1")

    def test_an_assume_box_that_ends_with_a_fresh_box(self):
        # Its last line is deeper, so that the fresh box may not be cited.
        self.wrong(4, "| fresh x", "| | R(x) ; assume", "| | R(x) ; follows 2", "every y1: R(y1) ; every 1")
        self.right("| fresh x", "| | R(x) ; assume", "| (R(x) -> R(x)) ; if 2", "every y1: (R(y1) -> R(y1)) ; every 1")

    def test_no_other_line_may_cite_a_fresh_box(self):
        rows = ["| fresh x", "| (R(x) or not R(x)) ; follows", "every y1: (R(y1) or not R(y1)) ; every 1"]
        self.wrong(4, *rows, "every y1: (R(y1) or not R(y1)) ; every 1")
        self.wrong(4, *rows, "(R(n) -> (R(n) or not R(n))) ; if 1")
        self.wrong(4, *rows, "(R(n) or not R(n)) ; cases 1 1")
        self.wrong(7, *rows, "| R(n) ; assume", "| (R(n) or not R(n)) ; among 4", "(R(n) -> (R(n) or not R(n))) ; if 4",
                   "(R(n) or not R(n)) ; cases 4 1")
        self.wrong(2, "| fresh x", "| every y1: R(y1) ; every 1", "0 = 0 ; order")

    def test_fresh_lines_are_not_cited_as_lines(self):
        for reason in ("follows 1", "among 1", "each 1 at n", "some 1 by n", "take 1 as w", "swap 1 2", "swap 2 1", "least 1 by n"):
            self.wrong(3, "| fresh x", "| n = n ; order", f"| n = n ; {reason}", "every y1: y1 = y1 ; every 1")
        self.wrong(3, "| fresh k", "| | R(n) ; assume", "R(n) ; induct 1 1 to 3")

    def test_a_box_without_a_line_behind_its_first_one(self):
        self.wrong(2, "| fresh x", "every y1: y1 = y1 ; every 1")
        self.wrong(2, "| fresh x", "0 = 0 ; induct 1 1 to 0")
        self.wrong(3, "0 = 0 ; order", "| fresh x", "0 = 0 ; induct 1 2 to 0")


class NamesTest(RulesTest):

    def test_names_of_formulas_and_terms(self):
        self.right("(n <= m -> n <= m + 1) ; order")
        self.wrong(1, "(x <= m -> x <= m + 1) ; order")
        self.wrong(1, "f(g(1, x)) = f(g(1, x)) ; order")
        self.wrong(2, "| every y1: n <= y1 ; assume", "| n <= f(x) ; each 1 at f(x)", "0 = 0 ; order")
        self.wrong(2, "| every y1: n = y1 ; assume", "| n = x ; each 1 at x", "0 = 0 ; order")
        self.right("| every y1: n <= y1 ; assume", "| n <= f(m) ; each 1 at f(m)", "0 = 0 ; order")
        self.wrong(1, "every y1: (R(x) or not R(y1)) ; follows")

    def test_names_of_fresh_boxes(self):
        self.right("| fresh x", "| x <= x + 1 ; order", "every y1: y1 <= y1 + 1 ; every 1")
        self.wrong(4, "| fresh x", "| x = x ; order", "every y1: y1 = y1 ; every 1", "x = x ; order", "0 = 0 ; order")
        self.wrong(2, "n = n ; order", "x = x ; order", "| fresh x", "| x = x ; order", "every y1: y1 = y1 ; every 3")
        self.wrong(4, "| fresh x", "| | fresh z", "| | z = z ; order", "| every y1: z <= y1 ; every 2",
                   "0 = 0 ; order")
        # The every line itself is outside of the box.
        self.wrong(3, "| fresh x", "| (R(x) or not R(x)) ; follows", "every y1: (R(x) or not R(y1)) ; every 1")

    def test_names_of_take_lines(self):
        rows = ["| some y1: R(y1) ; assume", "| R(w) ; take 1 as w"]
        self.right(*rows, "| | R(n) ; assume", "| | w = w ; order", "| (R(n) -> w = w) ; if 3", "0 = 0 ; order")
        self.wrong(3, *rows, "w = w ; order")
        # A take line within a box that is closed.
        self.wrong(5, "| some y1: R(y1) ; assume", "| | R(n) ; assume", "| | R(w) ; take 1 as w", "| | w = w ; order",
                   "| w = w ; order", "0 = 0 ; order")
        self.wrong(1, "w = w ; order", "| some y1: R(y1) ; assume", "| R(w) ; take 2 as w", "0 = 0 ; order")

    def test_names_that_are_not_new(self):
        self.wrong(1, "| fresh n", "| n = n ; order", "every y1: y1 = y1 ; every 1")
        self.wrong(2, "| some y1: R(y1) ; assume", "| R(n) ; take 1 as n", "0 = 0 ; order")
        self.wrong(3, "| some y1: R(y1) ; assume", "| R(w) ; take 1 as w", "| R(w) ; take 1 as w", "0 = 0 ; order")
        self.wrong(4, "| fresh x", "| x = x ; order", "every y1: y1 = y1 ; every 1", "| fresh x", "| x = x ; order",
                   "every y1: y1 = y1 ; every 4")
        self.wrong(3, "| some y1: R(y1) ; assume", "| R(w) ; take 1 as w", "| | fresh w", "| | w = w ; order",
                   "| every y1: y1 = y1 ; every 3", "0 = 0 ; order")
        self.wrong(5, "| fresh x", "| x = x ; order", "every y1: y1 = y1 ; every 1", "| some y1: R(y1) ; assume",
                   "| R(x) ; take 4 as x", "0 = 0 ; order")

    def test_every_without_the_name_of_its_box(self):
        self.right("| fresh x", "| | fresh z", "| | (S(x, z) or not S(x, z)) ; follows",
                   "| every y1: (S(x, y1) or not S(x, y1)) ; every 2", "| 0 = 0 ; order", "| x = x ; order",
                   "every y1: y1 = y1 ; every 1")


class ReasonsTest(RulesTest):

    def test_assume_if_and_cases(self):
        rows = ["| every y1: R(y1) ; assume", "| (some y2: R(y2) or every y1: R(y1)) ; among 1"]
        self.right(*rows, "(every y1: R(y1) -> (some y2: R(y2) or every y1: R(y1))) ; if 1")
        self.wrong(3, *rows, "(every y2: R(y2) -> (some y2: R(y2) or every y1: R(y1))) ; if 1")
        self.wrong(3, *rows, "(every y1: R(y1) -> every y1: R(y1)) ; if 1")
        self.wrong(3, *rows, "(some y2: R(y2) or every y1: R(y1)) ; if 1")
        more = [*rows, "| not every y1: R(y1) ; assume", "| (some y2: R(y2) or every y1: R(y1)) ; follows 3"]
        self.wrong(4, *more, "0 = 0 ; order")
        two = ["| R(n) ; assume", "| (R(n) or R(m)) ; among 1", "| not R(n) ; assume"]
        self.wrong(4, *two, "(R(n) or R(m)) ; cases 1 3")
        self.wrong(5, "| R(n) ; assume", "| n = n ; order", "| not R(n) ; assume", "| n = n ; order", "n = n ; cases 3 1")
        self.right("| R(n) ; assume", "| n = n ; order", "| not R(n) ; assume", "| n = n ; order", "n = n ; cases 1 3")
        self.wrong(5, "| R(n) ; assume", "| n = n ; order", "| not R(n) ; assume", "| n = n ; order", "m = m ; cases 1 3")
        self.wrong(5, "| R(n) ; assume", "| n = n ; order", "| not R(m) ; assume", "| n = n ; order", "n = n ; cases 1 3")
        self.wrong(5, "| R(n) ; assume", "| n = n ; order", "| not R(n) ; assume", "| m = m ; order", "n = n ; cases 1 3")
        self.wrong(2, "| R(n) ; assume", "| (R(n) -> R(n)) ; if 1", "0 = 0 ; order")

    def test_follows_among_and_order(self):
        self.right("(every y1: R(y1) or not every y1: R(y1)) ; follows")
        self.wrong(1, "(every y1: R(y1) or not every y2: R(y2)) ; follows")
        self.wrong(1, "(every y1: R(y1) -> R(n)) ; follows")
        self.right("| (some y1: R(y1) or R(n)) ; assume", "| (R(n) or (R(m) or some y1: R(y1))) ; among 1", "0 = 0 ; order")
        self.wrong(2, "| (some y1: R(y1) or R(n)) ; assume", "| (R(m) or some y1: R(y1)) ; among 1", "0 = 0 ; order")
        self.right("(n <= m -> n <= m + 1) ; order")
        self.wrong(1, "(n <= m -> n + 1 <= m) ; order")
        self.wrong(1, "every y1: y1 <= y1 ; order")
        self.wrong(1, "(n = n or some y1: y1 = n) ; order")
        self.wrong(1, "(R(n) -> n = n) ; order")
        ten = " or ".join(f"(not R({number})" for number in range(8)) + " or (R(n) or not R(n))" + ")" * 8
        self.right(f"{ten} ; follows")
        self.wrong(1, f"(R(50) or (R(51) or {ten})) ; follows")

    def test_swap(self):
        rows = ["| n = f(m) ; assume", "| | (R(n + 1) and every y1: S(n, y1)) ; assume"]
        self.right(*rows, "| | (R(f(m) + 1) and every y1: S(n, y1)) ; swap 1 2", "0 = 0 ; order")
        self.wrong(3, *rows, "| | (R(f(m) + 1) and every y1: S(f(m), y1)) ; swap 1 2", "0 = 0 ; order")
        self.wrong(3, *rows, "| | (R(f(m) + 2) and every y1: S(n, y1)) ; swap 1 2", "0 = 0 ; order")
        self.wrong(3, *rows, "| | n = f(m) ; swap 2 1", "0 = 0 ; order")

    def test_cited_lines(self):
        rows = ["| R(n) ; assume", "| n = n ; order", "(R(n) -> n = n) ; if 1"]
        for reason in ("follows 2", "among 2", "follows 1 2", "follows 4", "follows 5", "among 4", "among 9", "among 1200",
                       "swap 2 2"):
            self.wrong(4, *rows, f"n = n ; {reason}", "0 = 0 ; order")
        self.right(*rows, "(R(n) -> n = n) ; among 3")
        # A box is not a line and a line is not a box.
        self.wrong(4, *rows, "(R(n) -> n = n) ; if 2", "0 = 0 ; order")
        self.wrong(4, *rows, "n = n ; if 3", "0 = 0 ; order")

    def test_boxes_that_may_not_be_cited(self):
        rows = ["| R(n) ; assume", "| | R(m) ; assume", "| | m = m ; order", "| n = n ; order"]
        self.right(*rows, "| (R(m) -> m = m) ; if 2", "0 = 0 ; order")
        self.wrong(5, *rows, "(R(m) -> m = m) ; if 2", "0 = 0 ; order")
        self.wrong(4, *rows[:3], "(R(n) -> m = m) ; if 1", "0 = 0 ; order")

    def test_some(self):
        self.right("(n = n and n <= n) ; order", "some y1: (n = y1 and y1 <= n) ; some 1 by n")
        rows = ["| S(n, f(n)) ; assume"]
        for letter in ("y1", "p0", "a9"):
            self.right(*rows, f"| some {letter}: S({letter}, f(n)) ; some 1 by n", "0 = 0 ; order")
            self.right(*rows, f"| some {letter}: S(n, {letter}) ; some 1 by f(n)", "0 = 0 ; order")
            self.right(*rows, f"| some {letter}: S({letter}, f({letter})) ; some 1 by n", "0 = 0 ; order")
        self.wrong(2, *rows, "| some y1: S(y1, f(n)) ; some 1 by m", "0 = 0 ; order")
        self.wrong(2, *rows, "| every y1: S(y1, f(n)) ; some 1 by n", "0 = 0 ; order")
        self.wrong(2, *rows, "| S(n, f(n)) ; some 1 by n", "0 = 0 ; order")
        self.wrong(2, *rows, "| not some y1: S(y1, f(n)) ; some 1 by n", "0 = 0 ; order")
        self.wrong(2, *rows, "| some y1: S(f(n), y1) ; some 1 by n", "0 = 0 ; order")
        self.right("| every y2: S(n, y2) ; assume", "| some y1: every y2: S(y1, y2) ; some 1 by n", "0 = 0 ; order")
        self.wrong(2, "| every y2: S(n, y2) ; assume", "| some y1: every y3: S(y1, y3) ; some 1 by n", "0 = 0 ; order")
        self.wrong(3, *rows, "0 = 0 ; order", "some y1: S(y1, f(n)) ; some 1 by n")

    def test_each(self):
        rows = ["| every y1: S(y1, f(y1)) ; assume"]
        self.right(*rows, "| S(3, f(3)) ; each 1 at 3", "0 = 0 ; order")
        self.right(*rows, "| S(f(n) + 2, f(f(n) + 2)) ; each 1 at f(n) + 2", "0 = 0 ; order")
        self.wrong(2, *rows, "| S(3, f(3)) ; each 1 at 4", "0 = 0 ; order")
        self.wrong(2, *rows, "| S(3, f(n)) ; each 1 at 3", "0 = 0 ; order")
        self.wrong(2, *rows, "| every y1: S(y1, f(y1)) ; each 1 at 3", "0 = 0 ; order")
        self.wrong(2, "| some y1: S(y1, n) ; assume", "| S(3, n) ; each 1 at 3", "0 = 0 ; order")
        self.wrong(2, "| S(3, n) ; assume", "| S(3, n) ; each 1 at 3", "0 = 0 ; order")
        self.wrong(3, *rows, "0 = 0 ; order", "S(3, f(3)) ; each 1 at 3")
        self.right("| every y1: some y2: S(y1, y2) ; assume", "| some y2: S(n, y2) ; each 1 at n", "0 = 0 ; order")

    def test_take(self):
        rows = ["| some y1: S(y1, f(y1)) ; assume"]
        self.right(*rows, "| S(w, f(w)) ; take 1 as w", "0 = 0 ; order")
        self.wrong(2, *rows, "| S(n, f(n)) ; take 1 as w", "0 = 0 ; order")
        self.wrong(2, *rows, "| S(w, f(n)) ; take 1 as w", "0 = 0 ; order")
        self.wrong(2, *rows, "| S(w, f(w)) ; take 1 as v", "0 = 0 ; order")
        self.wrong(2, "| every y1: S(y1, n) ; assume", "| S(w, n) ; take 1 as w", "0 = 0 ; order")
        self.wrong(2, "| S(n, n) ; assume", "| S(n, n) ; take 1 as w", "0 = 0 ; order")
        self.wrong(3, *rows, "0 = 0 ; order", "S(w, f(w)) ; take 1 as w")

    def test_least(self):
        rows = ["| some y1: S(y1, n) ; assume", "| S(w, n) ; take 1 as w"]
        self.right(*rows, "| (S(f(m), n) -> w <= f(m)) ; least 2 by f(m)", "0 = 0 ; order")
        self.right(*rows, "| (S(w, n) -> w <= w) ; least 2 by w", "0 = 0 ; order")
        self.wrong(3, *rows, "| (S(f(m), n) -> w <= m) ; least 2 by f(m)", "0 = 0 ; order")
        self.wrong(3, *rows, "| (S(m, n) -> w <= f(m)) ; least 2 by f(m)", "0 = 0 ; order")
        self.wrong(3, *rows, "| (S(m, n) -> n <= m) ; least 2 by m", "0 = 0 ; order")
        self.wrong(3, *rows, "| S(m, n) ; least 2 by m", "0 = 0 ; order")
        self.wrong(3, *rows, "| (S(m, n) -> w <= m) ; least 1 by m", "0 = 0 ; order")
        self.wrong(4, *rows, "| S(w, n) ; among 2", "| (S(m, n) -> w <= m) ; least 3 by m", "0 = 0 ; order")
        self.wrong(3, *rows, "(S(m, n) -> m <= m) ; least 2 by m", "0 = 0 ; order")

    def test_least_with_a_quantifier(self):
        rows = ["| some y1: every y2: S(y1, y2) ; assume", "| every y2: S(w, y2) ; take 1 as w"]
        self.wrong(3, *rows, "| (every y2: S(m, y2) -> w <= m) ; least 2 by m", "0 = 0 ; order")

    def test_every(self):
        rows = ["| fresh x", "| (S(x, n) or not S(x, n)) ; follows"]
        for letter in ("y1", "p3"):
            self.right(*rows, f"every {letter}: (S({letter}, n) or not S({letter}, n)) ; every 1")
        self.wrong(3, *rows, "some y1: (S(y1, n) or not S(y1, n)) ; every 1")
        self.wrong(3, *rows, "every y1: (S(y1, m) or not S(y1, n)) ; every 1")
        self.wrong(3, *rows, "every y1: (S(n, n) or not S(y1, n)) ; every 1")
        self.wrong(3, *rows, "(S(n, n) or not S(n, n)) ; every 1")
        self.wrong(3, *rows, "not every y1: (S(y1, n) or not S(y1, n)) ; every 1")
        # Each place of the name must become the letter.
        self.wrong(5, "| some y9: S(y9, y9) ; assume", "| S(v, v) ; take 1 as v", "| | fresh x", "| | (R(x) or not R(x)) ; follows",
                   "| every y1: (R(y1) or not R(v)) ; every 3", "0 = 0 ; order")

    def test_formulas_that_are_too_large_to_be_examined(self):
        # A term of 89 pieces for each of 8 places, a 20th `not`, and a denial that is too deep.
        part = "(" * 7 + "R(y1)" + " and R(y1))" * 7
        self.wrong(2, f"| every y1: {part} ; assume", f"| R(n) ; each 1 at {term_of_pieces(89)}", "0 = 0 ; order")
        deep = "not " * 19 + "n = n"
        self.wrong(3, f"| {deep} ; assume", "| n = n ; order", "n = n ; if 1", "0 = 0 ; order")
        self.wrong(5, f"| {deep} ; assume", "| n = n ; order", "| R(n) ; assume", "| n = n ; order", "n = n ; cases 1 3",
                   "0 = 0 ; order")


class InductionTest(RulesTest):

    start = "| (R(0) and every y1: (R(y1) -> R(y1 + 1))) ; assume"
    rows = [start, "| R(0) ; follows 1", "| every y1: (R(y1) -> R(y1 + 1)) ; follows 1", "| | fresh k", "| | | R(k) ; assume",
            "| | | (R(k) -> R(k + 1)) ; each 3 at k", "| | | R(k + 1) ; follows 5 6"]

    def ends(self, number, last, rows=None):
        """The first wrong line of the rows with another line behind them."""
        self.wrong(number, *(rows or self.rows), last, "0 = 0 ; order")

    def test_ends(self):
        self.ends(0, "| R(n) ; induct 2 4 to n")
        self.ends(0, "| R(m) ; induct 2 4 to m")
        for number in (0, 1, 7, 20):
            self.ends(0, f"| R({number}) ; induct 2 4 to {number}")
        self.ends(8, "| R(3) ; induct 2 4 to 2")
        self.ends(8, "| R(m) ; induct 2 4 to n")
        self.ends(8, "| R(k) ; induct 2 4 to k")
        self.ends(8, "| R(x) ; induct 2 4 to x")

    def test_an_end_that_is_no_input(self):
        rows = ["| some y5: R(y5) ; assume", "| R(w) ; take 1 as w"] + [row.replace("| ", "| | ", 1) for row in self.rows]
        rows = [row.replace("follows 1", "follows 3").replace("each 3", "each 5").replace("follows 5 6", "follows 7 8")
                for row in rows]
        self.wrong(0, *rows, "| | R(n) ; induct 4 6 to n", "0 = 0 ; order")
        self.wrong(10, *rows, "| | R(w) ; induct 4 6 to w", "0 = 0 ; order")

    def test_the_first_line(self):
        self.ends(8, "| R(n) ; induct 1 4 to n")
        self.ends(8, "| R(n) ; induct 3 4 to n")
        self.ends(8, "| R(n) ; induct 5 4 to n")
        self.ends(8, "| R(n) ; induct 8 4 to n")
        self.ends(8, "| R(n) ; induct 9 4 to n")

    def test_the_box(self):
        for box in (1, 2, 3, 5, 6, 8, 9):
            self.ends(8, f"| R(n) ; induct 2 {box} to n")
        self.wrong(8, *self.rows, "R(n) ; induct 2 4 to n", "0 = 0 ; order")
        self.wrong(9, *self.rows, "| R(n) ; induct 2 4 to n", "| R(m) ; induct 2 4 to m", "0 = 0 ; order")

    def test_the_second_line(self):
        # It must be an assume line, one deeper.
        rows = [*self.rows[:4], "| | 0 = 0 ; order", *self.rows[4:6], "| | | R(k + 1) ; follows 6 7"]
        self.ends(9, "| R(n) ; induct 2 4 to n", rows)
        rows = [*self.rows[:4], "| | R(k) ; assume", "0 = 0 ; order"]
        self.wrong(5, *rows)
        rows = [*self.rows[:4], "| | | fresh j", "| | | R(k) ; order"]
        self.wrong(6, *rows, "| R(n) ; induct 2 4 to n", "0 = 0 ; order")

    def test_the_last_line(self):
        # Of the depth of the second line, within its box, with k + 1.
        self.ends(9, "| R(n) ; induct 2 4 to n", [*self.rows, "| | | R(k) ; among 5"])
        self.ends(9, "| R(n) ; induct 2 4 to n", [*self.rows, "| | (R(k) -> R(k + 1)) ; if 5"])
        self.ends(9, "| R(n) ; induct 2 4 to n", [*self.rows, "| | | | R(n) ; assume"])
        self.ends(10, "| R(n) ; induct 2 4 to n", [*self.rows, "| | | R(n) ; assume", "| | | R(n) ; among 8"])
        self.ends(10, "| R(n) ; induct 2 4 to n", [*self.rows, "| | | | R(n) ; assume", "| | | | R(k + 1) ; among 7"])
        self.ends(0, "| R(n) ; induct 2 4 to n", [*self.rows, "| | | | R(n) ; assume", "| | | R(k + 1) ; among 7"])
        more = [*self.rows, "| | (R(k) -> R(k + 1)) ; if 5", "| | | R(k + 1) ; assume"]
        self.ends(10, "| R(n) ; induct 2 4 to n", more)

    def test_the_formula_of_the_second_line(self):
        same = ["n = n ; order", "| fresh k", "| | n = n ; assume", "n = n ; induct 1 2 to 7"]
        self.right(*same)
        self.wrong(4, *same[:2], "| | n = k ; assume", same[3], "0 = 0 ; order")
        self.right(*same[:3], "| | n = n ; among 3", same[3])
        # k becomes 0, k + 1 and the end at each of its places.
        rows = ["| R(0) ; assume", "| 0 <= 0 ; order", "| (0 <= 0 and R(0)) ; follows 1 2", "| | fresh k",
                "| | | (k <= k and R(0)) ; assume", "| | | k + 1 <= k + 1 ; order",
                "| | | (k + 1 <= k + 1 and R(0)) ; follows 5 6"]
        self.right(*rows, "| (n <= n and R(0)) ; induct 3 4 to n", "0 = 0 ; order")
        self.wrong(8, *rows, "| (n <= m and R(0)) ; induct 3 4 to n", "0 = 0 ; order")
        self.wrong(8, *rows, "| (n <= n and R(n)) ; induct 3 4 to n", "0 = 0 ; order")
        last = ["| | | k <= k + 1 ; order", "| | | (k <= k + 1 and R(0)) ; follows 5 6"]
        self.wrong(8, *rows[:5], *last, "| (n <= n and R(0)) ; induct 3 4 to n", "0 = 0 ; order")
        first = ["| 0 <= 1 ; order", "| (0 <= 1 and R(0)) ; follows 1 2"]
        self.wrong(8, rows[0], *first, *rows[3:], "| (n <= n and R(0)) ; induct 3 4 to n", "0 = 0 ; order")

    def test_the_depth(self):
        rows = ["0 = 0 ; order", "| R(n) ; assume", "| | fresh k", "| | | 0 = 0 ; assume"]
        self.right(*rows, "| 0 = 0 ; induct 1 3 to 5", "0 = 0 ; order")
        self.wrong(5, *rows, "0 = 0 ; induct 1 3 to 5")

    def test_names_of_the_box_behind_it(self):
        self.wrong(9, *self.rows, "| R(n) ; induct 2 4 to n", "| k = k ; order", "0 = 0 ; order")

    def test_too_large_for_the_next_number(self):
        # k + 9 has no sum with one more.
        rows = ["9 = 9 ; order", "| fresh k", "| | k + 9 = k + 9 ; assume", "| | k + 9 = k + 9 ; among 3", "n = n ; induct 1 2 to n"]
        self.wrong(5, *rows, "0 = 0 ; order")


if __name__ == "__main__":
    unittest.main()

"""Point 56: spoken derivations told as derivations."""

import unittest

from proofs import BOOK, INDUCTION, LEAST, PROOFS, TAKE, proof
from support import PackageTest, joined

from rightatlast.books import Book
from rightatlast.checker import first_wrong_line
from rightatlast.derivations import Derivation
from rightatlast.errors import BadInput, MissingInput, NeedsNumbers, TooDeep, TooLarge, TooWide, WrongLine
from rightatlast.formulatext import read_formula
from rightatlast.library import Library
from rightatlast.putting import put_names
from rightatlast.spoken import Spoken
from rightatlast.spokenrules import first_wrong_spoken
from rightatlast.telling import tell_formula
from rightatlast.termtext import read_term
from rightatlast.told import tell

SIGNS = "abcdefghijklmnopqrstuvwxyz"


def spoken(inputs, *rows, book=BOOK):
    """The spoken derivation of some rows."""
    return Spoken.read(book, inputs, "\n".join(rows))


class TellingTest(PackageTest):

    def tells(self, made, numbers, rows, choices):
        """A spoken derivation is told as these rows, with these further rows of the book."""
        self.assertEqual(first_wrong_spoken(made), 0)
        before = made.text
        told = tell(made, numbers)
        self.assertIsInstance(told, Derivation)
        self.assertEqual(told.text.split("\n"), rows)
        self.assertEqual(told.book.text.split("\n"), made.book.text.split("\n") + choices)
        self.is_good(made, numbers, told)
        self.assertEqual(made.text, before)

    def is_good(self, made, numbers, told):
        """What a spoken derivation is told as is accepted, has the told claim, and can be read."""
        self.assertEqual(first_wrong_line(Library(told.book), told), 0)
        terms = {name: read_term(str(numbers[name])) for name in made.inputs if name in numbers}
        self.assertEqual(told.claim, put_names(tell_formula(told.book, made.claim).formula, terms))
        self.assertEqual(Derivation.read(Book.read(told.book.text), told.text), told)


class ExamplesTest(TellingTest):

    def test_the_example_of_the_interface(self):
        book = Book.read("fun f 1\nrel R 1")
        made = Spoken.read(book, ["n"], PROOFS["each and some"][1])
        self.tells(made, {}, ["| R(Ca) ; assume", "| (not R(f(n)) -> not R(Ca)) ; demand Ca by f(n)",
                              "| R(f(n)) ; follows 1 2", "| (R(f(n)) -> R(f(Cb))) ; demand Cb by n",
                              "| R(f(Cb)) ; follows 3 4", "(R(Ca) -> R(f(Cb))) ; if 1"],
                   ["pick Ca 0: not R(y0)", "pick Cb 0: R(f(y0))"])

    def test_the_example_of_the_point(self):
        made = Spoken.read(Book.read("rel R 1"), ["n"], INDUCTION)
        self.tells(made, {"n": 1}, """| R(0) ; assume
| (R(0) or (R(Ca) and not R(Ca + 1))) ; among 1
| | R(1) ; assume
| | (R(1) or (R(Ca) and not R(Ca + 1))) ; among 3
| | not R(1) ; assume
| | | R(0) ; assume
| | | (R(0) and not R(1)) ; follows 5 6
| | | ((R(0) and not R(1)) -> (R(Ca) and not R(Ca + 1))) ; demand Ca by 0
| | | (R(Ca) and not R(Ca + 1)) ; follows 7 8
| | (R(0) -> (R(Ca) and not R(Ca + 1))) ; if 6
| | (R(Ca) and not R(Ca + 1)) ; follows 2 10
| | (R(1) or (R(Ca) and not R(Ca + 1))) ; among 11
| (R(1) or (R(Ca) and not R(Ca + 1))) ; cases 3 5
| (R(1) or (R(Ca) and not R(Ca + 1))) ; among 13
(R(0) -> (R(1) or (R(Ca) and not R(Ca + 1)))) ; if 1""".split("\n"), ["pick Ca 0: (R(y0) and not R(y0 + 1))"])

    def test_all_proofs(self):
        for name in PROOFS:
            made = proof(name)
            for number in (0, 1, 2, 5):
                numbers = {word: number + place for place, word in enumerate(made.inputs)}
                self.is_good(made, numbers, tell(made, numbers))
            if name not in ("induction", "twice"):
                self.is_good(made, {}, tell(made, {}))

    def test_take_and_some(self):
        self.tells(Spoken.read(BOOK, ["n"], TAKE), {}, [
            "| S(Ca(n), n) ; assume", "| S(Ca(n), n) ; among 1", "| (S(Ca(n), n) -> S(Ca(n), n)) ; demand Ca(n) by Ca(n)",
            "| S(Ca(n), n) ; follows 2 3", "(S(Ca(n), n) -> S(Ca(n), n)) ; if 1"], ["pick Ca 1: S(y0, p1)"])

    def test_least(self):
        self.tells(Spoken.read(BOOK, [], LEAST), {}, [
            "| R(Ca) ; assume", "| R(Ca) ; among 1", "| (R(Cb(Ca)) -> Ca <= Cb(Ca)) ; least Ca by Cb(Ca)",
            "| (R(Cb(Ca)) -> Ca <= Cb(Ca)) ; among 3", "| (R(Ca) and (R(Cb(Ca)) -> Ca <= Cb(Ca))) ; follows 2 4",
            "| ((R(Ca) and (R(Cb(Ca)) -> Ca <= Cb(Ca))) -> (R(Cc) and (R(Cb(Cc)) -> Cc <= Cb(Cc)))) ; demand Cc by Ca",
            "| (R(Cc) and (R(Cb(Cc)) -> Cc <= Cb(Cc))) ; follows 5 6",
            "(R(Ca) -> (R(Cc) and (R(Cb(Cc)) -> Cc <= Cb(Cc)))) ; if 1"],
            ["pick Ca 0: R(y0)", "pick Cb 1: not (R(y0) -> p1 <= y0)",
             "pick Cc 0: (R(y0) and (R(Cb(y0)) -> y0 <= Cb(y0)))"])

    def test_swap_order_and_depths(self):
        self.tells(proof("orders"), {"x": 3, "z": 5}, [
            "| 3 = f(5) ; assume", "| | S(4, g(3, 5)) ; assume", "| | S(f(5) + 1, g(3, 5)) ; swap 1 2",
            "| | (3 <= 3 -> 4 <= 4) ; order", "| | (f(5) <= 3 -> f(5) + 1 <= 4) ; swap 1 4",
            "| | (S(f(5) + 1, g(3, 5)) and (f(5) <= 3 -> f(5) + 1 <= 4)) ; follows 3 5",
            "| | ((S(f(5) + 1, g(3, 5)) and (f(5) <= 3 -> f(5) + 1 <= 4)) -> (S(Ca(g(3, 5), 3, 4) + 1, g(3, 5)) and "
            "(Ca(g(3, 5), 3, 4) <= 3 -> Ca(g(3, 5), 3, 4) + 1 <= 4))) ; demand Ca(g(3, 5), 3, 4) by f(5)",
            "| | (S(Ca(g(3, 5), 3, 4) + 1, g(3, 5)) and (Ca(g(3, 5), 3, 4) <= 3 -> Ca(g(3, 5), 3, 4) + 1 <= 4)) ; follows 6 7",
            "| (S(4, g(3, 5)) -> (S(Ca(g(3, 5), 3, 4) + 1, g(3, 5)) and (Ca(g(3, 5), 3, 4) <= 3 -> Ca(g(3, 5), 3, 4) + 1 "
            "<= 4))) ; if 2",
            "(3 = f(5) -> (S(4, g(3, 5)) -> (S(Ca(g(3, 5), 3, 4) + 1, g(3, 5)) and (Ca(g(3, 5), 3, 4) <= 3 -> "
            "Ca(g(3, 5), 3, 4) + 1 <= 4)))) ; if 1"], ["pick Ca 3: (S(y0 + 1, p1) and (y0 <= p2 -> y0 + 1 <= p3))"])

    def test_fresh_boxes_and_cases(self):
        self.tells(proof("drinker"), {}, [
            "| R(Ca) ; assume", "| (R(0) -> R(Ca)) ; follows 1",
            "| ((R(0) -> R(Ca)) -> (R(Cb(Ca)) -> R(Ca))) ; demand Cb(Ca) by 0", "| (R(Cb(Ca)) -> R(Ca)) ; follows 2 3",
            "| not R(Ca) ; assume", "| | not (R(Cb(Ca)) -> R(Ca)) ; assume", "| | | not R(Ca) ; assume",
            "| | | (R(Ca) -> R(Ca)) ; follows 7", "| | | ((R(Ca) -> R(Ca)) -> (R(Cb(Ca)) -> R(Ca))) ; demand Cb(Ca) by Ca",
            "| | | (R(Cb(Ca)) -> R(Ca)) ; follows 8 9", "| | (not R(Ca) -> (R(Cb(Ca)) -> R(Ca))) ; if 7",
            "| | R(Ca) ; follows 11 6", "| | R(Ca) ; among 12", "| (not (R(Cb(Ca)) -> R(Ca)) -> R(Ca)) ; if 6",
            "| (R(Cb(Ca)) -> R(Ca)) ; follows 14 5", "(R(Cb(Ca)) -> R(Ca)) ; cases 1 5"],
            ["pick Ca 0: not R(y0)", "pick Cb 1: (R(y0) -> R(p1))"])

    def test_names_that_stand_for_terms_with_names(self):
        # x stands for Ce; z for a choice term with what w and x stand for in it.
        told = tell(proof("nested"), {})
        self.assertEqual(told.book.text.split("\n")[4:], [
            "pick Ca 1: not S(p1, y0)", "pick Cb 0: S(y0, Ca(y0))", "pick Cc 1: S(y0, p1)",
            "pick Cd 3: not (S(y0, p1) -> (S(y0, p2) and S(p3, y0)))", "pick Ce 0: not S(Cc(y0), y0)"])
        self.assertEqual([line.text for line in told.lines[2:9]], [
            "| (not S(Cb, Ce) -> not S(Cb, Ca(Cb))) ; demand Ca(Cb) by Ce", "| S(Cb, Ce) ; follows 2 3",
            "| (S(Cb, Ce) -> S(Cc(Ce), Ce)) ; demand Cc(Ce) by Cb", "| S(Cc(Ce), Ce) ; follows 4 5",
            "| | S(Cd(Ce, Ce, Cb), Ce) ; assume",
            "| | (not S(Cb, Cd(Ce, Ce, Cb)) -> not S(Cb, Ca(Cb))) ; demand Ca(Cb) by Cd(Ce, Ce, Cb)",
            "| | S(Cb, Cd(Ce, Ce, Cb)) ; follows 2 8"])

    def test_the_book_grows_line_by_line(self):
        rows = ["(some y1: R(y1) or not some y1: R(y1)) ; follows", "(some y1: S(y1, y1) or not some y1: S(y1, y1)) ; follows",
                "(every y1: R(y1) -> every y1: R(y1)) ; follows", "(some y2: R(y2) or not some y2: R(y2)) ; follows",
                "(some y1: not R(y1) -> some y1: not R(y1)) ; follows"]
        self.tells(spoken([], *rows), {}, [
            "(R(Ca) or not R(Ca)) ; follows", "(S(Cb, Cb) or not S(Cb, Cb)) ; follows", "(R(Cc) -> R(Cc)) ; follows",
            "(R(Ca) or not R(Ca)) ; follows", "(not R(Cc) -> not R(Cc)) ; follows"],
            ["pick Ca 0: R(y0)", "pick Cb 0: S(y0, y0)", "pick Cc 0: not R(y0)"])

    def test_names_do_not_matter_for_the_book(self):
        # With the number 3 both formulas are equal, without it they have the same choice, too.
        rows = ["(some y1: S(y1, n) -> some y1: S(y1, n)) ; follows", "(some y1: S(y1, 3) -> some y1: S(y1, 3)) ; follows"]
        self.tells(spoken(["n"], *rows), {"n": 3}, ["(S(Ca(3), 3) -> S(Ca(3), 3)) ; follows"] * 2, ["pick Ca 1: S(y0, p1)"])

    def test_derivations_without_quantifiers(self):
        rows = ["| R(n) ; assume", "| (R(n) or R(m)) ; among 1", "(R(n) -> (R(n) or R(m))) ; if 1"]
        self.tells(spoken(["n", "m"], *rows), {}, rows, [])
        self.tells(spoken(["n", "m"], *rows), {"n": 7, "m": 0},
                   ["| R(7) ; assume", "| (R(7) or R(0)) ; among 1", "(R(7) -> (R(7) or R(0))) ; if 1"], [])


class InductionTest(TellingTest):

    def test_turns(self):
        # 0 <= 0, then k + 1 <= k + 1 by order: one line for each turn.
        rows = ["0 <= 0 ; order", "| fresh k", "| | k <= k ; assume", "| | k + 1 <= k + 1 ; order", "{0} <= {0} ; induct 1 2 to {0}"]

        def told(count):
            """The rows for this number of turns."""
            turns = [f"{number} <= {number} ; order" for number in range(count + 1)]
            return turns + [f"{count} <= {count} ; among {count + 1}"]

        for count in (0, 1, 2, 20):
            self.tells(spoken([], *[row.format(count) for row in rows]), {}, told(count), [])
            self.tells(spoken(["n"], *[row.format("n") for row in rows]), {"n": count}, told(count), [])

    def test_citing_the_line_before_the_turns(self):
        # Line j + 1 is said by line i in the first turn, and then by the line that said the last line of the box.
        rows = ["| (R(0) and every y1: (R(y1) -> R(y1 + 1))) ; assume", "| every y1: (R(y1) -> R(y1 + 1)) ; follows 1",
                "| R(0) ; follows 1", "| | fresh k", "| | | R(k) ; assume", "| | | (R(k) -> R(k + 1)) ; each 2 at k",
                "| | | R(k + 1) ; follows 5 6", "| R(2) ; induct 3 4 to 2", "| R(2) ; among 8", "0 = 0 ; order"]
        self.tells(spoken([], *rows), {}, [
            "| (R(0) and (R(Ca) -> R(Ca + 1))) ; assume", "| (R(Ca) -> R(Ca + 1)) ; follows 1", "| R(0) ; follows 1",
            "| (not (R(0) -> R(1)) -> not (R(Ca) -> R(Ca + 1))) ; demand Ca by 0", "| (R(0) -> R(1)) ; follows 2 4",
            "| R(1) ; follows 3 5", "| (not (R(1) -> R(2)) -> not (R(Ca) -> R(Ca + 1))) ; demand Ca by 1",
            "| (R(1) -> R(2)) ; follows 2 7", "| R(2) ; follows 6 8", "| R(2) ; among 9", "| R(2) ; among 10",
            "0 = 0 ; order"], ["pick Ca 0: not (R(y0) -> R(y0 + 1))"])

    def test_a_box_that_ends_with_its_second_line(self):
        rows = ["0 = 0 ; order", "| fresh k", "| | 0 = 0 ; assume", "0 = 0 ; induct 1 2 to 7"]
        self.tells(spoken([], *rows), {}, ["0 = 0 ; order", "0 = 0 ; among 1"], [])

    def test_one_within_the_other(self):
        rows = ["0 = 0 ; order", "| fresh k", "| | 0 = 0 ; assume", "| | k <= k ; order", "| | | fresh j",
                "| | | | 0 = 0 ; assume", "| | | | (S(j, k) or not S(j, k)) ; follows", "| | | | 0 = 0 ; among 6",
                "| | 0 = 0 ; induct 3 5 to n", "0 = 0 ; induct 1 2 to 2"]
        self.tells(spoken(["n"], *rows), {"n": 2}, [
            "0 = 0 ; order", "0 <= 0 ; order", "(S(0, 0) or not S(0, 0)) ; follows", "0 = 0 ; among 1",
            "(S(1, 0) or not S(1, 0)) ; follows", "0 = 0 ; among 4", "0 = 0 ; among 6", "1 <= 1 ; order",
            "(S(0, 1) or not S(0, 1)) ; follows", "0 = 0 ; among 7", "(S(1, 1) or not S(1, 1)) ; follows",
            "0 = 0 ; among 10", "0 = 0 ; among 12", "0 = 0 ; among 13"], [])
        self.tells(spoken(["n"], *rows), {"n": 0}, [
            "0 = 0 ; order", "0 <= 0 ; order", "0 = 0 ; among 1", "1 <= 1 ; order", "0 = 0 ; among 3", "0 = 0 ; among 5"], [])

    def test_a_box_of_which_nothing_is_told(self):
        rows = ["0 = 0 ; order", "| fresh k", "| | 0 = 0 ; assume", "| | | fresh j", "| | | | 0 = 0 ; assume",
                "| | | | 0 = 0 ; among 5", "| | 0 = 0 ; induct 3 4 to n", "0 = 0 ; induct 1 2 to 0"]
        for numbers in ({}, {"n": 5}, {"n": 99}):
            self.tells(spoken(["n"], *rows), numbers, ["0 = 0 ; order", "0 = 0 ; among 1"], [])

    def test_names_that_are_taken_anew_in_each_turn(self):
        rows = ["| every y1: some y2: S(y1, y2) ; assume", "| 0 = 0 ; order", "| | fresh k", "| | | 0 = 0 ; assume",
                "| | | some y2: S(k, y2) ; each 1 at k", "| | | S(k, w) ; take 5 as w", "| | | | fresh x",
                "| | | | (S(x, w) or not S(x, w)) ; follows", "| | | every y3: (S(y3, w) or not S(y3, w)) ; every 7",
                "| | | 0 = 0 ; among 4", "| 0 = 0 ; induct 2 3 to 2", "0 = 0 ; order"]
        made = spoken([], *rows)
        told = tell(made, {})
        self.is_good(made, {}, told)
        self.assertEqual([line.text for line in told.lines[2:8]], [
            "| (not S(0, Ca(0)) -> not S(Cb, Ca(Cb))) ; demand Cb by 0", "| S(0, Ca(0)) ; follows 1 3", "| S(0, Ca(0)) ; among 4",
            "| (S(Cc(Ca(0), Ca(0)), Ca(0)) or not S(Cc(Ca(0), Ca(0)), Ca(0))) ; follows",
            "| (S(Cc(Ca(0), Ca(0)), Ca(0)) or not S(Cc(Ca(0), Ca(0)), Ca(0))) ; among 6", "| 0 = 0 ; among 2"])
        self.assertEqual([line.text for line in told.lines[8:14]], [
            "| (not S(1, Ca(1)) -> not S(Cb, Ca(Cb))) ; demand Cb by 1", "| S(1, Ca(1)) ; follows 1 9",
            "| S(1, Ca(1)) ; among 10", "| (S(Cc(Ca(1), Ca(1)), Ca(1)) or not S(Cc(Ca(1), Ca(1)), Ca(1))) ; follows",
            "| (S(Cc(Ca(1), Ca(1)), Ca(1)) or not S(Cc(Ca(1), Ca(1)), Ca(1))) ; among 12", "| 0 = 0 ; among 8"])

    def test_boxes_within_turns(self):
        made = proof("induction")
        for number in (2, 20):
            told = tell(made, {"n": number})
            self.assertEqual(len(told), 4 + 11 * number)
            self.assertEqual({line.depth for line in told}, {0, 1, 2, 3})
            self.is_good(made, {"n": number}, told)

    def test_depths_without_fresh_boxes(self):
        rows = ["| R(n) ; assume", "| n = n ; order", "| fresh x", "| | R(x) ; assume", "| (R(x) -> R(x)) ; if 4",
                "every y1: (R(y1) -> R(y1)) ; every 3"]
        self.tells(spoken(["n"], *rows), {}, ["| R(n) ; assume", "| n = n ; order", "| R(Ca) ; assume",
                                              "(R(Ca) -> R(Ca)) ; if 3", "(R(Ca) -> R(Ca)) ; among 4"],
                   ["pick Ca 0: not (R(y0) -> R(y0))"])


class ErrorsTest(TellingTest):

    induction = ["0 = 0 ; order", "| fresh k", "| | 0 = 0 ; assume", "0 = 0 ; induct 1 2 to n"]

    def refused(self, kind, fields, numbers, *rows, inputs=("n", "m"), book=BOOK):
        """Telling some rows, which are accepted or have a wrong line, raises an error."""
        made = spoken(list(inputs), *rows, book=book)
        self.assertEqual(first_wrong_spoken(made), fields.get("line", 0))
        self.refuses(kind, fields, tell, made, numbers)

    def test_wrong_lines_come_first(self):
        self.refused(WrongLine, {"line": 2}, {"N": 100}, "0 = 0 ; order", "n = m ; order", "0 = 1 ; order")
        self.refused(WrongLine, {"line": 1}, {"N": 100}, "| n = n ; order")
        self.refused(WrongLine, {"line": 2}, {}, self.induction[0], "m = n ; order", *self.induction[1:3],
                     "0 = 0 ; induct 1 3 to n")

    def test_inputs(self):
        self.refused(BadInput, {"name": "N"}, {"a": 99, "N": 1, "m": 100}, *self.induction)
        self.refused(BadInput, {"name": "m"}, {"a": 99, "m": 100}, *self.induction)
        self.refused(MissingInput, {"name": "n"}, {"a": 99}, *self.induction)
        self.refused(MissingInput, {"name": "m"}, {"n": 99}, *self.induction)
        self.refused(MissingInput, {"name": "m"}, {"n": 99}, *self.induction, inputs=("m", "n"))
        self.refused(TooWide, {}, {"n": 99, "m": 0}, *self.induction)
        self.assertEqual(len(tell(spoken([], "0 = 0 ; order"), {"a": 99})), 1)

    def test_names_that_are_no_inputs_have_no_effect(self):
        made = Spoken.read(BOOK, ["n"], TAKE)
        self.assertEqual(tell(made, {"w": 3, "n": 7, "z": 1}), tell(made, {"n": 7}))
        made = proof("nested")
        self.assertEqual(tell(made, {"w": 3, "x": 5, "z": 7}), tell(made, {}))
        numbers = {"w": 3, "n": 7}
        tell(Spoken.read(BOOK, ["n"], TAKE), numbers)
        self.assertEqual(numbers, {"w": 3, "n": 7})

    def test_numbers_of_inductions(self):
        self.refused(NeedsNumbers, {}, {}, *self.induction)
        self.refused(TooWide, {}, {"n": 21, "m": 0}, *self.induction)
        self.assertEqual(len(tell(spoken(["n"], *self.induction), {"n": 20})), 2)
        self.assertEqual(len(tell(spoken(["n", "m"], *self.induction), {"n": 20, "m": 99})), 2)
        # An induction to a number needs no numbers.
        self.assertEqual(len(tell(spoken(["n"], *self.induction[:3], "0 = 0 ; induct 1 2 to 20"), {})), 2)

    def test_the_book_comes_before_the_lines(self):
        upper = "some y1: every y2: some y3: (S(y1, y2) and S(y2, y3))"
        seven = ("some y1: (g(g(g(n, y1), g(n, y1)), g(g(n, y1), g(n, y1))) = g(g(n, y1), g(n, y1)) or R(g(y1, n)))")
        deep = f"({upper} or not {upper}) ; follows"
        wide = f"({seven} or not {seven}) ; follows"
        self.refused(TooDeep, {}, {}, *self.induction, deep, wide)
        self.refused(TooWide, {}, {}, *self.induction, wide, deep)
        self.refused(TooDeep, {}, {"n": 99, "m": 99}, "n + 5 = n + 5 ; order", deep)

    def test_a_book_that_becomes_too_large(self):
        rows = [f"(some y1: R(y1 + {one}) or not some y1: R(y1 + {one})) ; follows" for one in range(1, 10)]
        rows += [f"(some y1: S(y1, y1 + {one}) or not some y1: S(y1, y1 + {one})) ; follows" for one in range(1, 10)]
        rows += [f"(some y1: S(y1 + {one}, y1) or not some y1: S(y1 + {one}, y1)) ; follows" for one in range(1, 10)]
        rows += [f"(some y1: y1 = y1 + {one} or not some y1: y1 = y1 + {one}) ; follows" for one in range(1, 10)]
        told = tell(spoken([], *rows), {})
        self.assertEqual(len(told.book.text.split("\n")), 40)
        more = "(some y1: R(y1) or not some y1: R(y1)) ; follows"
        self.refused(TooLarge, {}, {}, *self.induction, *rows, more)
        self.refused(TooDeep, {}, {}, *self.induction, "({0} -> {0}) ; follows".format(
            "some y1: every y2: some y3: (S(y1, y2) and S(y2, y3))"), *rows, more)

    def test_a_told_formula_that_is_too_large_with_the_names_as_they_are(self):
        names = "abcdefgh"
        hole = f"g(g({names}, {names}), g({names}, {names}))"
        text = "some y1: " + joined([read_formula(f"R(g({hole}, y1))")] + [read_formula("S(y1, y1)")] * 4).text
        row = f"({text} -> {text}) ; follows"
        self.refused(TooLarge, {}, {names: 1}, row, inputs=(names,))
        told = tell_formula(BOOK, put_names(read_formula(row[:-10]), {names: read_term("1")}))
        self.assertLess(len(told.formula.text), 1000)

    def test_sums_that_become_too_large(self):
        rows = ["(n + 5 <= m -> n + 5 <= m) ; follows"]
        self.assertEqual(tell(spoken(["n", "m"], *rows), {"n": 94, "m": 99}).text, "(99 <= 99 -> 99 <= 99) ; follows")
        self.refused(TooLarge, {}, {"n": 95, "m": 99}, *rows)
        # k + 9 is 29 at most; 90 + 9 is not too large.
        self.refused(TooLarge, {}, {"n": 95, "m": 20}, "0 = 0 ; order", *rows, "| fresh k", "| | 0 = 0 ; assume",
                     "0 = 0 ; induct 1 3 to m")
        # A term of a reason.
        rows = ["| every y1: (R(y1) or 0 = 0) ; assume", "| (R(n + 5) or 0 = 0) ; each 1 at n + 5", "0 = 0 ; order"]
        self.refused(TooLarge, {}, {"n": 95, "m": 0}, *rows)

    def test_the_order_of_the_lines(self):
        large = "(m + 5 <= n -> m + 5 <= n) ; follows"
        numbers = {"n": 21, "m": 99}
        self.refused(TooLarge, {}, numbers, large, "0 = 0 ; order", "| fresh k", "| | 0 = 0 ; assume", "0 = 0 ; induct 2 3 to n")
        self.refused(TooWide, {}, numbers, *self.induction, large)
        # The number is asked for before anything of the box is told, and not if nothing of the box is told.
        self.refused(TooWide, {}, numbers, *self.induction[:3], "| | (m + 5 <= n -> m + 5 <= n) ; follows", "| | 0 = 0 ; among 3",
                     self.induction[3])
        self.refused(TooLarge, {}, {"n": 1, "m": 99}, *self.induction[:3], "| | (m + 5 <= n -> m + 5 <= n) ; follows",
                     "| | 0 = 0 ; among 3", self.induction[3])
        self.assertEqual(len(tell(spoken(["n", "m"], *self.induction[:3], "| | (m + 5 <= n -> m + 5 <= n) ; follows",
                                         "| | 0 = 0 ; among 3", self.induction[3]), {"n": 0, "m": 99})), 2)

    def test_the_last_turn_may_be_too_large(self):
        rows = ["0 = 0 ; order", "| fresh k", "| | 0 = 0 ; assume", "| | (S(k, m + 9) or not S(k, m + 9)) ; follows",
                "| | 0 = 0 ; among 3", "0 = 0 ; induct 1 2 to n"]
        self.assertEqual(len(tell(spoken(["n", "m"], *rows), {"n": 20, "m": 90})), 42)
        rows[3] = "| | (every y1: S(k + 9, y1) or not every y1: S(k + 9, y1)) ; follows"
        self.assertEqual(len(tell(spoken(["n", "m"], *rows), {"n": 20, "m": 90})), 42)

    def test_a_fresh_name_that_stands_for_a_term_that_is_too_large(self):
        # w stands for a term of 50 pieces. The every line has four of it in a hole, the line within the box has none.
        large = self.term_of_pieces(49)
        rows = [f"| some y1: S(y1, {large}) ; assume", f"| S(w, {large}) ; take 1 as w", "| 0 = 0 ; order"]
        box = ["| | fresh x", "| | 0 = 0 ; order"]
        inner = ["| | | fresh k", "| | | | 0 = 0 ; assume", "| | 0 = 0 ; induct 5 6 to n"]
        end = ["| | (S(x, g(w, w)) or not S(x, g(w, w))) ; follows",
               "| every y2: (S(y2, g(w, w)) or not S(y2, g(w, w))) ; every 4", "0 = 0 ; order"]
        self.refused(TooLarge, {}, {}, *rows, *box, *inner, *end, inputs=("n",))
        # Without the large term the number of the induction within the box is asked for.
        small = [row.replace(large, "n") for row in rows]
        self.refused(NeedsNumbers, {}, {}, *small, *box, *inner, *end, inputs=("n",))
        self.assertEqual(len(tell(spoken(["n"], *small, *box, *inner, *end), {"n": 3})), 8)
        # And before the fresh line it is asked for earlier.
        self.refused(NeedsNumbers, {}, {}, *rows, "| | fresh k", "| | | 0 = 0 ; assume", "| 0 = 0 ; induct 3 4 to n",
                     "| | fresh x", end[0], end[1].replace("every 4", "every 7"), end[2],
                     inputs=("n",))

    def term_of_pieces(self, count):
        """The text of a term of so many pieces, an odd number, with the name n alone."""
        leaves = ["n"] * ((count + 1) // 2)
        while len(leaves) > 1:
            pairs = [f"g({first}, {second})" for first, second in zip(leaves[::2], leaves[1::2])]
            leaves = pairs + leaves[len(pairs) * 2:]
        return leaves[0]

    def many_holes(self, hole):
        """A formula about y1 with a term as each of its 5 holes."""
        return joined([read_formula(f"S(y1, {hole})")] * 5).text

    def test_demands_that_are_too_large(self):
        # The told line has 803 characters; the formula of its demand has 1017.
        name = "abcdefgh"
        for hole, fits in ((f"g({name}, {name})", True), (f"f(g({name}, abcdefg))", False)):
            part = self.many_holes(hole)
            rows = [f"| {part.replace('y1', name)} ; assume", f"| some y1: {part} ; some 1 by {name}", "0 = 0 ; order"]
            if fits:
                self.assertEqual(len(tell(spoken([name, "abcdefg"], *rows), {})), 4)
            else:
                self.refused(TooLarge, {}, {}, *rows, inputs=(name, "abcdefg"))

    def test_a_demand_of_a_least_line_that_is_too_large(self):
        name = "abcdefgh"
        for hole, fits in ((f"g({name}, {name})", True), (f"f(g({name}, abcdefg))", False)):
            part = self.many_holes(hole)
            rows = [f"| some y1: {part} ; assume", f"| {part.replace('y1', 'w')} ; take 1 as w",
                    f"| ({part.replace('y1', name)} -> w <= {name}) ; least 2 by {name}", "0 = 0 ; order"]
            if fits:
                self.assertEqual(len(tell(spoken([name, "abcdefg"], *rows), {})), 4)
            else:
                self.refused(TooLarge, {}, {}, *rows, inputs=(name, "abcdefg"))
                # Without the last two lines nothing is too large.
                self.assertEqual(len(tell(spoken([name, "abcdefg"], *rows[:2], rows[3]), {})), 3)

    def test_a_follows_line_with_10_and_11_atoms(self):
        five = " and ".join([f"(R(y1 + {one})" for one in range(1, 5)]) + " and R(y1 + 5)" + ")" * 4
        other = five.replace("R(", "S(y1, ")
        ten = f"((some y1: {five} and some y1: {other}) -> some y1: {five})"
        told = tell(spoken([], f"{ten} ; follows"), {})
        self.is_good(spoken([], f"{ten} ; follows"), {}, told)
        eleven = ten.replace("some y1: " + other, f"(some y1: {other} and R(0))")
        self.refused(TooWide, {}, {}, f"{eleven} ; follows")
        # The atoms of the cited lines count, too.
        rows = [f"| some y1: {five} ; assume", f"| | some y1: {other} ; assume", f"| | some y1: {five} ; follows 1 2"]
        self.assertEqual(len(tell(spoken([], *rows, "0 = 0 ; order"), {})), 4)
        self.refused(TooWide, {}, {}, *rows[:2], "| | | R(0) ; assume", f"| | | some y1: {five} ; follows 1 2 3", "0 = 0 ; order")
        self.assertEqual(len(tell(spoken([], *rows[:2], "| | | R(0) ; assume", f"| | | some y1: {five} ; follows 1 3",
                                         "0 = 0 ; order"), {})), 5)

    def test_too_wide_when_the_work_comes_to_it(self):
        five = " and ".join([f"(R(y1 + {one})" for one in range(1, 5)]) + " and R(y1 + 5)" + ")" * 4
        other = five.replace("R(", "S(y1, ")
        eleven = f"((some y1: {five} and (some y1: {other} and R(m + 5))) -> some y1: {five}) ; follows"
        self.refused(TooWide, {}, {}, eleven, *[row.replace("1 2 to", "2 3 to") for row in self.induction])
        self.refused(NeedsNumbers, {}, {}, *self.induction, eleven)
        # What is too large comes before it.
        self.refused(TooLarge, {}, {"m": 95, "n": 1}, eleven)
        self.refused(TooWide, {}, {"m": 94, "n": 1}, eleven)

    def test_other_lines_may_have_more_than_10_atoms(self):
        five = " and ".join([f"(R(y1 + {one})" for one in range(1, 5)]) + " and R(y1 + 5)" + ")" * 4
        other = five.replace("R(", "S(y1, ")
        eleven = f"(some y1: {five} and (some y1: {other} and R(0)))"
        rows = [f"| {eleven} ; assume", f"| ({eleven} or R(1)) ; among 1", f"({eleven} -> ({eleven} or R(1))) ; if 1"]
        self.assertEqual(len(tell(spoken([], *rows), {})), 3)

    def lines_up_to(self, count):
        """Rows that are told as this many lines, at least 1182: an induction of 20 turns of 59 lines, and what is left."""
        turn = ["| | (S(k, 0) or not S(k, 0)) ; follows"] * 58 + ["| | 0 = 0 ; among 3"]
        rows = [*self.induction[:3], *turn, "0 = 0 ; induct 1 2 to 20"]
        return rows + ["0 = 0 ; order"] * (count - 1182)

    def test_1200_and_1201_lines(self):
        for count in (1182, 1200):
            self.assertEqual(len(tell(spoken([], *self.lines_up_to(count)), {})), count)
        self.refused(TooLarge, {}, {}, *self.lines_up_to(1201))
        # The second line of two is the one too many.
        end = ["| R(n) ; assume", "| some y1: R(y1) ; some {} by n", "0 = 0 ; order"]
        for count in (1196, 1197, 1198):
            rows = self.lines_up_to(count)
            more = [row.format(len(rows) + 1) for row in end]
            if count == 1196:
                self.assertEqual(len(tell(spoken(["n"], *rows, *more), {})), 1200)
            else:
                self.refused(TooLarge, {}, {}, *rows, *more, inputs=("n",))

    def test_too_wide_comes_before_the_line_that_is_too_much(self):
        five = " and ".join([f"(R(y1 + {one})" for one in range(1, 5)]) + " and R(y1 + 5)" + ")" * 4
        other = five.replace("R(", "S(y1, ")
        eleven = f"((some y1: {five} and (some y1: {other} and R(0))) -> some y1: {five}) ; follows"
        self.refused(TooWide, {}, {}, *self.lines_up_to(1200), eleven)
        self.refused(TooLarge, {}, {}, *self.lines_up_to(1201), eleven)
        self.refused(TooLarge, {}, {}, *self.lines_up_to(1200), "0 = 0 ; order", eleven)
        self.refused(NeedsNumbers, {}, {}, *self.lines_up_to(1200), *[
            row.replace("1 2 to", f"1 {len(self.lines_up_to(1200)) + 1} to").replace("fresh k", "fresh j")
            for row in self.induction[1:]], "0 = 0 ; order")


if __name__ == "__main__":
    unittest.main()

"""Points 57 to 59: derivations without choices."""

import itertools
import unittest

from proofs import PROOFS, proof
from support import PackageTest, term_text_of_length

from rightatlast.books import Book
from rightatlast.checker import first_wrong_line
from rightatlast.derivations import Derivation
from rightatlast.errors import NoChoice, NotSimple, RightatlastError, TooLarge, TooWide, WrongLine
from rightatlast.formulatext import read_formula
from rightatlast.guesses import Guesses
from rightatlast.library import Library
from rightatlast.pieces import choice_terms, members_of
from rightatlast.termtext import read_term
from rightatlast.told import tell
from rightatlast.values import truth_of
from rightatlast.without import next_choice, taken_out, trial_terms, without_choices
from rightatlast.worlds import World

BOOK = Book.read("fun f 1\nfun g 2\nfun longfunc 2\nrel R 1\npick Any 0: R(y0)\npick Low 1: f(y0) <= p1\n"
                 "pick Never 2: p1 = 0\npick Up 1: (Low(y0) <= p1 and R(y0))\npick Ut 0: g(Any, y0) = 3")
ANY = ["(R(n) -> R(Any)) ; demand Any by n", "(R(f(Any)) -> R(Any)) ; demand Any by f(Any)",
       "(Any = 0 or R(Any)) ; zero Any"]


def derivation(*rows):
    """The derivation of some rows."""
    return Derivation.read(BOOK, "\n".join(rows))


def listed(made):
    """The choice terms of a derivation, by the words of point 57."""
    things = []
    for line in made:
        things += [line.formula, *line.terms, *[term for _, term in line.puts]]
    return [term.text for term in choice_terms(things)]


class ListTest(PackageTest):

    def takes(self, text, *rows):
        """This choice term is taken out next."""
        found = next_choice(derivation(*rows))
        self.assertEqual(found, read_term(text) if text is not None else None)

    def test_the_last_of_the_list(self):
        self.takes("Any", "Any <= Any ; order")
        self.takes("Low(2)", "Any <= Low(2) ; order")
        self.takes("Any", "Low(2) <= Any ; order")
        self.takes("Low(Any)", "Low(Any) <= Any ; order")
        self.takes("Low(3)", "Any <= Low(2) ; order", "Low(2) <= Low(3) ; order", "Any <= Low(2) ; order")

    def test_no_choice_terms(self):
        self.takes(None, "n <= n ; order", "R(n) ; among 1")

    def test_upper_ones_first(self):
        self.takes("Up(2)", "Up(2) <= Low(3) ; order", "Any <= Any ; order")
        self.takes("Up(3)", "Up(2) <= Low(Up(3)) ; order", "Any <= Any ; order")
        self.takes("Ut", "Up(Up(2)) <= Ut ; order", "Low(Up(2)) = Any ; order")
        self.takes("Up(Ut)", "Up(Ut) <= Any ; order")

    def test_those_of_reasons(self):
        # The formula first, then the head and the by-term.
        self.takes("Low(n)", "R(Any) ; demand Any by Low(n)")
        self.takes("Low(Any)", "R(Any) ; zero Low(Any)")
        self.takes("Low(n)", "Low(n) = 3 ; zero Low(n)", "R(n) ; order")
        self.takes("Any", "R(n) ; least Low(n) by Any")
        self.takes("Low(2)", "R(n) ; fact one x = Any, y = f(Low(2))")
        self.takes("Any", "R(n) ; fact one x = Low(2), y = f(Any)")
        self.takes("Low(2)", "R(Any) ; fact one x = Low(2), y = f(Any)")

    def test_the_derivation_need_not_be_accepted(self):
        self.takes("Any", "| R(n) ; if 7", "R(Any) ; follows 9")

    def test_trial_terms(self):
        def trials(*rows):
            """The texts of the trial terms."""
            found = trial_terms(derivation(*rows))
            self.assertIsInstance(found, tuple)
            return [term.text for term in found]

        self.assertEqual(trials(*ANY), ["n", "f(0)"])
        self.assertEqual(trials("R(n) ; demand Any by 3", "R(n) ; demand Any by n", "R(n) ; demand Any by 3"), ["3", "n"])
        self.assertEqual(trials("R(n) ; demand Any by Any", "R(n) ; demand Any by 0", "R(n) ; demand Any by g(Any, Any + 4)",
                                "R(n) ; demand Any by Any + 4"), ["0", "g(0, 4)", "4"])
        self.assertEqual(trials("Any <= Any ; order", "R(n) ; zero Any", "R(n) ; least Any by 3"), [])
        # Of this choice term alone.
        self.assertEqual(trials("R(n) ; demand Low(3) by n", "R(n) ; demand Low(2) by Low(3)", "R(n) ; demand Any by n"), ["n"])
        self.assertEqual(trials("R(n) ; demand Low(3) by n", "R(n) ; demand Low(2) by Low(3)"), ["Low(3)"])
        self.assertEqual(trials("R(n) ; demand Up(3) by Low(Up(3))", "R(n) ; demand Low(Up(3)) by 5"), ["Low(0)"])
        self.refuses(NoChoice, {}, trial_terms, derivation("n <= n ; order"))


class TakenOutTest(PackageTest):

    def becomes(self, rows, told):
        """Taking out a choice term turns the rows into other ones, which are accepted."""
        made = derivation(*rows)
        self.assertEqual(first_wrong_line(Library(BOOK), made), 0)
        result = taken_out(made)
        self.assertIsInstance(result, Derivation)
        self.assertEqual(result.text.split("\n"), told)
        self.assertEqual(first_wrong_line(Library(BOOK), result), 0)
        self.assertEqual((result.book, made.text), (BOOK, "\n".join(rows)))
        self.assertNotIn(next_choice(made).text, listed(result))
        self.assertEqual(Derivation.read(BOOK, result.text), result)

    def test_two_trial_terms(self):
        claim = "((R(n) -> R(n)) or ((R(n) -> R(f(0))) or (R(n) -> R(0))))"
        self.becomes([*ANY, "(R(n) -> R(Any)) ; follows 1"], [
            "| R(n) ; assume", "| (R(n) -> R(n)) ; follows 1", "| (R(f(n)) -> R(n)) ; follows 1", "| (n = 0 or R(n)) ; among 1",
            "| (R(n) -> R(n)) ; follows 2", f"| {claim} ; among 5", "| not R(n) ; assume", "| | R(f(0)) ; assume",
            "| | (R(n) -> R(f(0))) ; follows 8", "| | (R(f(f(0))) -> R(f(0))) ; follows 8", "| | (f(0) = 0 or R(f(0))) ; among 8",
            "| | (R(n) -> R(f(0))) ; follows 9", f"| | {claim} ; among 12", "| | not R(f(0)) ; assume",
            "| | (R(n) -> R(0)) ; follows 7", "| | (R(f(0)) -> R(0)) ; follows 14", "| | 0 = 0 ; order",
            "| | (0 = 0 or R(0)) ; among 17", "| | (R(n) -> R(0)) ; follows 15", f"| | {claim} ; among 19",
            f"| {claim} ; cases 8 14", f"{claim} ; cases 1 7"])

    def test_equal_claims(self):
        self.becomes([ANY[0], "n <= n ; order"], [
            "| R(n) ; assume", "| (R(n) -> R(n)) ; follows 1", "| n <= n ; order", "| not R(n) ; assume",
            "| (R(n) -> R(0)) ; follows 4", "| n <= n ; order", "n <= n ; cases 1 4"])
        # The trial term 0 gives the claim of the copy for 0.
        self.becomes(["(R(0) -> R(Any)) ; demand Any by 0"], [
            "| R(0) ; assume", "| (R(0) -> R(0)) ; follows 1", "| not R(0) ; assume", "| (R(0) -> R(0)) ; follows 3",
            "(R(0) -> R(0)) ; cases 1 3"])

    def test_no_trial_terms(self):
        self.becomes(["Any + 2 <= Any + 4 ; order", "(Any = 0 or R(Any)) ; zero Any",
                      "(R(n) or (Any = 0 or R(Any))) ; among 2"],
                     ["2 <= 4 ; order", "0 = 0 ; order", "(0 = 0 or R(0)) ; among 2", "(R(n) or (0 = 0 or R(0))) ; among 3"])
        self.becomes(["Low(Low(n)) <= Low(Low(n)) ; order"], ["0 <= 0 ; order"])

    def test_a_zero_line_at_the_end(self):
        # The claim of the copy for 0 is its last line, behind the line 0 = 0.
        claim = "(n = 0 or (R(n) or (0 = 0 or R(0))))"
        self.becomes([ANY[0], ANY[2]], [
            "| R(n) ; assume", "| (R(n) -> R(n)) ; follows 1", "| (n = 0 or R(n)) ; among 1", f"| {claim} ; among 3",
            "| not R(n) ; assume", "| (R(n) -> R(0)) ; follows 5", "| 0 = 0 ; order", "| (0 = 0 or R(0)) ; among 7",
            f"| {claim} ; among 8", f"{claim} ; cases 1 5"])

    def test_members_each_once(self):
        # The claims are (R(n) or R(2)) and (R(0) or R(2)): R(2) is a member of both.
        rows = ["(R(n) -> R(Any)) ; demand Any by n", "| R(n) ; assume", "| (not R(n) or (R(Any) or R(2))) ; follows 1 2",
                "| not R(n) ; assume", "| (not R(n) or (R(Any) or R(2))) ; among 4",
                "(not R(n) or (R(Any) or R(2))) ; cases 2 4"]
        made = derivation(*rows)
        self.assertEqual(taken_out(made).claim.text, "(not R(n) or (R(n) or (R(2) or R(0))))")
        self.assertEqual(first_wrong_line(Library(BOOK), taken_out(made)), 0)

    def test_claims_with_the_same_members(self):
        # Not all equal, but there is only one member: the line behind each copy has it alone.
        made = ["| R(3) ; assume", "| (R(3) -> R(Any)) ; demand Any by 3", "| (R(3) or R(Any)) ; follows 1 2",
                "(R(3) -> (R(3) or R(Any))) ; if 1"]
        result = taken_out(derivation(*made))
        self.assertEqual(result.claim.text, "((R(3) -> (R(3) or R(3))) or (R(3) -> (R(3) or R(0))))")
        one = ["0 = 0 ; order", "(R(0) -> R(Any)) ; demand Any by 0", "(0 = 0 or 0 = Any) ; among 1"]
        self.assertEqual(taken_out(derivation(*one)).text.split("\n")[-1], "(0 = 0 or 0 = 0) ; cases 1 5")
        two = ["(R(f(0)) -> R(Any)) ; demand Any by f(0)", "f(0) = f(0) ; order", "(f(0) = f(0) or Any = Any) ; among 2"]
        self.assertEqual(taken_out(derivation(*two)).text.split("\n"), [
            "| R(f(0)) ; assume", "| (R(f(0)) -> R(f(0))) ; follows 1", "| f(0) = f(0) ; order",
            "| (f(0) = f(0) or f(0) = f(0)) ; among 3", "| (f(0) = f(0) or 0 = 0) ; among 4", "| not R(f(0)) ; assume",
            "| (R(f(0)) -> R(0)) ; follows 6", "| f(0) = f(0) ; order", "| (f(0) = f(0) or 0 = 0) ; among 8",
            "| (f(0) = f(0) or 0 = 0) ; among 9", "(f(0) = f(0) or 0 = 0) ; cases 1 6"])

    def test_boxes_and_numbers(self):
        rows = ["| R(n) ; assume", "| | not R(Any) ; assume", "| | (R(n) -> R(Any)) ; demand Any by n",
                "| | (R(Any) or 0 = 0) ; follows 1 3", "| (not R(Any) -> (R(Any) or 0 = 0)) ; if 2", "| n = n ; order",
                "(R(n) -> n = n) ; if 1"]
        self.becomes(rows, [
            "| R(n) ; assume", "| | R(n) ; assume", "| | | not R(n) ; assume", "| | | (R(n) -> R(n)) ; follows 1",
            "| | | (R(n) or 0 = 0) ; follows 2 4", "| | (not R(n) -> (R(n) or 0 = 0)) ; if 3", "| | n = n ; order",
            "| (R(n) -> n = n) ; if 2", "| not R(n) ; assume", "| | R(n) ; assume", "| | | not R(0) ; assume",
            "| | | (R(n) -> R(0)) ; follows 9", "| | | (R(0) or 0 = 0) ; follows 10 12",
            "| | (not R(0) -> (R(0) or 0 = 0)) ; if 11", "| | n = n ; order", "| (R(n) -> n = n) ; if 10",
            "(R(n) -> n = n) ; cases 1 9"])

    def test_parts_and_other_heads(self):
        # Low(Any) comes behind Any; its demand line has a by-term with it.
        rows = ["(f(n) <= Any -> f(Low(Any)) <= Any) ; demand Low(Any) by n",
                "(Low(Any) = 0 or f(Low(Any)) <= Any) ; zero Low(Any)", "(R(n) -> R(Any)) ; demand Any by n",
                "(Any = 0 or R(Any)) ; zero Any", "Low(Any) <= Low(Any) ; order", "0 = 0 ; order"]
        self.becomes(rows, [
            "| f(n) <= Any ; assume", "| (f(n) <= Any -> f(n) <= Any) ; follows 1", "| (n = 0 or f(n) <= Any) ; among 1",
            "| (R(n) -> R(Any)) ; demand Any by n", "| (Any = 0 or R(Any)) ; zero Any", "| n <= n ; order", "| 0 = 0 ; order",
            "| not f(n) <= Any ; assume", "| (f(n) <= Any -> f(0) <= Any) ; follows 8", "| 0 = 0 ; order",
            "| (0 = 0 or f(0) <= Any) ; among 10", "| (R(n) -> R(Any)) ; demand Any by n", "| (Any = 0 or R(Any)) ; zero Any",
            "| 0 <= 0 ; order", "| 0 = 0 ; order", "0 = 0 ; cases 1 8"])

    def test_upper_choices(self):
        # Low(Up(2)) contains the upper one that is taken out: it has other parts then.
        rows = ["((Low(n) <= 2 and R(n)) -> (Low(Up(2)) <= 2 and R(Up(2)))) ; demand Up(2) by n",
                "(f(3) <= Up(2) -> f(Low(Up(2))) <= Up(2)) ; demand Low(Up(2)) by 3", "Low(Up(2)) <= Low(Up(2)) ; order"]
        self.becomes(rows, [
            "| (Low(n) <= 2 and R(n)) ; assume", "| ((Low(n) <= 2 and R(n)) -> (Low(n) <= 2 and R(n))) ; follows 1",
            "| (f(3) <= n -> f(Low(n)) <= n) ; demand Low(n) by 3", "| Low(n) <= Low(n) ; order",
            "| (Low(n) <= Low(n) or Low(0) <= Low(0)) ; among 4", "| not (Low(n) <= 2 and R(n)) ; assume",
            "| ((Low(n) <= 2 and R(n)) -> (Low(0) <= 2 and R(0))) ; follows 6",
            "| (f(3) <= 0 -> f(Low(0)) <= 0) ; demand Low(0) by 3", "| Low(0) <= Low(0) ; order",
            "| (Low(n) <= Low(n) or Low(0) <= Low(0)) ; among 9", "(Low(n) <= Low(n) or Low(0) <= Low(0)) ; cases 1 6"])

    def test_three_trial_terms(self):
        rows = ["(R(1) -> R(Any)) ; demand Any by 1", "(R(2) -> R(Any)) ; demand Any by 2", "(R(3) -> R(Any)) ; demand Any by 3",
                "(R(2) -> R(Any)) ; demand Any by 2", "n = n ; order"]
        told = taken_out(derivation(*rows))
        self.assertEqual([line.text for line in told if line.reason in ("assume", "cases")], [
            "| R(1) ; assume", "| not R(1) ; assume", "| | R(2) ; assume", "| | not R(2) ; assume", "| | | R(3) ; assume",
            "| | | not R(3) ; assume", "| | n = n ; cases 15 21", "| n = n ; cases 8 14", "n = n ; cases 1 7"])
        self.assertEqual([line.text for line in told.lines[21:26]], [
            "| | | (R(1) -> R(0)) ; follows 7", "| | | (R(2) -> R(0)) ; follows 14", "| | | (R(3) -> R(0)) ; follows 21",
            "| | | (R(2) -> R(0)) ; follows 14", "| | | n = n ; order"])
        self.assertEqual(first_wrong_line(Library(BOOK), told), 0)

    def test_by_terms_that_become_equal(self):
        # f(Any) with 0 for Any is f(0), which is another by-term.
        rows = ["(R(f(0)) -> R(Any)) ; demand Any by f(0)", "(R(f(Any)) -> R(Any)) ; demand Any by f(Any)", "0 = 0 ; order"]
        self.becomes(rows, [
            "| R(f(0)) ; assume", "| (R(f(0)) -> R(f(0))) ; follows 1", "| (R(f(f(0))) -> R(f(0))) ; follows 1", "| 0 = 0 ; order",
            "| not R(f(0)) ; assume", "| (R(f(0)) -> R(0)) ; follows 5", "| (R(f(0)) -> R(0)) ; follows 5", "| 0 = 0 ; order",
            "0 = 0 ; cases 1 5"])


class LimitsTest(PackageTest):

    def numbered(self, count, name="Any"):
        """Demand lines of a choice term with this many trial terms."""
        return [f"(R({number}) -> R({name})) ; demand {name} by {number}" for number in range(1, count + 1)]

    def test_64_and_65_cases(self):
        # With 63 trial terms the boxes become too deep, with 64 there are too many cases.
        self.assertEqual(len(taken_out(derivation(*self.numbered(20), "0 = 0 ; order"))), 21 * 21 + 60)
        for count in (21, 63):
            self.refuses(TooLarge, {}, taken_out, derivation(*self.numbered(count), "0 = 0 ; order"))
            self.refuses(TooLarge, {}, without_choices, derivation(*self.numbered(count), "0 = 0 ; order"))
        for count in (64, 70):
            self.refuses(TooWide, {}, taken_out, derivation(*self.numbered(count), "0 = 0 ; order"))
            self.refuses(TooWide, {}, without_choices, derivation(*self.numbered(count), "0 = 0 ; order"))

    def test_the_product_of_the_cases(self):
        def rows(first, second):
            """Demand lines of two choice terms with these numbers of trial terms."""
            low = [f"(f({number}) <= 5 -> f(Low(5)) <= 5) ; demand Low(5) by {number}" for number in range(1, second + 1)]
            return derivation(*self.numbered(first), *low, "0 = 0 ; order")

        # 8 copies of 15 lines and 21 more, and then 8 copies of these and 21 more.
        self.assertEqual(len(without_choices(rows(7, 7))), 8 * (8 * 15 + 21) + 21)
        self.assertEqual(len(without_choices(rows(1, 7))), 2 * (8 * 9 + 21) + 3)
        self.refuses(TooWide, {}, without_choices, rows(12, 4))
        self.refuses(TooWide, {}, without_choices, rows(4, 12))
        self.refuses(TooWide, {}, without_choices, rows(8, 7))
        self.refuses(TooWide, {}, without_choices, rows(7, 8))
        # One step alone has few cases.
        self.assertEqual(len(taken_out(rows(12, 4))), 5 * 17 + 12)

    def test_40_and_41_choice_terms(self):
        rows = [f"Low({number}) <= Low({number}) ; order" for number in range(41)]
        self.assertEqual(without_choices(derivation(*rows[:40])).text, "\n".join(["0 <= 0 ; order"] * 40))
        self.refuses(TooWide, {}, without_choices, derivation(*rows))
        # Only without_choices examines how many there are.
        self.assertEqual(len(listed(taken_out(derivation(*rows)))), 40)

    def test_more_than_40_choice_terms_on_the_way(self):
        # Taking out Up(2) doubles those that contain it.
        rows = ["((Low(n) <= 2 and R(n)) -> (Low(Up(2)) <= 2 and R(Up(2)))) ; demand Up(2) by n"]
        for count, kind in ((18, None), (19, TooWide)):
            more = [f"Low(g({one}, Up(2))) <= Low(g({one}, Up(2))) ; order" for one in range(count)]
            made = derivation(*rows, *more)
            self.assertEqual(len(listed(made)), count + 3)
            self.assertEqual(len(listed(taken_out(made))), 2 * count + 2)
            if kind is None:
                self.assertEqual(listed(without_choices(made)), [])
            else:
                self.refuses(TooWide, {}, without_choices, derivation(*rows, *more, "Low(71) <= Low(71) ; order"))

    def test_1200_and_1201_lines(self):
        rows = self.numbered(2) + ["0 = 0 ; order"] * 396
        self.assertEqual(len(taken_out(derivation(*rows))), 1200)
        self.assertEqual(len(without_choices(derivation(*rows))), 1200)
        more = self.numbered(2) + ["(Any = 0 or R(Any)) ; zero Any"] + ["0 = 0 ; order"] * 395
        self.refuses(TooLarge, {}, taken_out, derivation(*more))
        self.refuses(TooLarge, {}, without_choices, derivation(*more))
        # The joined claims are 3 lines, too.
        claims = self.numbered(2) + ["0 = 0 ; order"] * 393 + ["(0 = 0 or R(Any)) ; among 3"]
        self.assertEqual(len(taken_out(derivation(*claims))), 1197)
        self.refuses(TooLarge, {}, taken_out, derivation(*claims[:2], *["0 = 0 ; order"] * 2, *claims[2:]))

    def test_depth_20_and_21(self):
        def deep(depth):
            """A derivation of this depth with one trial term."""
            rows = ["| " * one + f"R({one}) ; assume" for one in range(1, depth + 1)]
            return derivation(*self.numbered(1), *rows, "0 = 0 ; order")

        self.assertEqual(max(line.depth for line in taken_out(deep(19))), 20)
        self.refuses(TooLarge, {}, taken_out, deep(20))
        self.assertEqual(max(line.depth for line in taken_out(derivation("Any <= Any ; order", *[
            line.text for line in deep(20)][1:]))), 20)

    def test_a_term_or_formula_that_becomes_too_large(self):
        long_term = term_text_of_length(480)
        rows = [f"(R({long_term}) -> R(Any)) ; demand Any by {long_term}", "0 = 0 ; order"]
        self.assertEqual(len(taken_out(derivation(*rows))), 7)
        # Twice, three times: the copy has the term in the place of Any.
        self.refuses(TooLarge, {}, taken_out, derivation(rows[0], "(Any = Any and Any <= Any) ; order", rows[1]))
        deep = "f(" * 18 + "n" + ")" * 18
        rows = [f"(R({deep}) -> R(Any)) ; demand Any by {deep}", "f(Any) <= f(Any) ; order"]
        self.assertEqual(len(taken_out(derivation(*rows))), 9)
        self.refuses(TooLarge, {}, taken_out, derivation(rows[0], "f(f(Any)) <= f(f(Any)) ; order"))
        rows = ["(R(99) -> R(Any)) ; demand Any by 99", "Any + 1 <= Any + 2 ; order"]
        self.refuses(TooLarge, {}, taken_out, derivation(*rows))

    def test_the_joined_claim_may_be_too_large(self):
        long_term = term_text_of_length(440)
        rows = [f"(R({long_term}) -> R(Any)) ; demand Any by {long_term}", f"(R({long_term}) -> R(Any)) ; follows 1"]
        self.refuses(TooLarge, {}, taken_out, derivation(*rows))
        self.assertEqual(len(taken_out(derivation(rows[0], "0 = 0 ; order"))), 7)

    def test_heads_and_by_terms_that_vanish(self):
        # The formulas do not show the by-terms. If the first one were put into the second one, it would be too deep.
        by_terms = ["f(" * 18 + "n" + ")" * 18, "f(" * 17 + "Never(1, 2)" + ")" * 17]
        rows = [f"(1 = 0 -> 1 = 0) ; demand Never(1, 2) by {by}" for by in by_terms]
        told = taken_out(derivation(*rows, "0 = 0 ; order"))
        self.assertEqual([line.text for line in told if line.reason == "assume"],
                         ["| 1 = 0 ; assume", "| not 1 = 0 ; assume", "| | 1 = 0 ; assume", "| | not 1 = 0 ; assume"])
        self.assertEqual(first_wrong_line(Library(BOOK), told), 0)
        rows = [f"(R({by}) -> R(Any)) ; demand Any by {by}".replace("Never(1, 2)", "Any") for by in by_terms]
        self.refuses(TooLarge, {}, taken_out, derivation(*rows, "0 = 0 ; order"))

    def test_demands_that_become_too_large(self):
        # The zero line of Low(Ut) has 3 times the trial term, its demand has it 4 times.
        told = taken_out(self.with_a_zero_line(242))
        self.assertEqual(first_wrong_line(Library(BOOK), told), 0)
        self.assertEqual(len(told.lines[2].formula.text), 27 + 3 * 242)
        self.refuses(TooLarge, {}, taken_out, self.with_a_zero_line(243))
        self.refuses(TooLarge, {}, without_choices, self.with_a_zero_line(243))

    def test_a_demand_whose_text_becomes_too_long(self):
        # The formula does not show the by-term, which has the trial term twice.
        for length in (320, 325, 329):
            term = term_text_of_length(length)
            made = derivation(f"(g(Any, {term}) = 3 -> g(Any, Ut) = 3) ; demand Ut by {term}",
                              "(Ut = 0 -> Ut = 0) ; demand Never(Ut, n) by g(Ut, Ut)", "0 = 0 ; order")
            text = f"Never({term}, n) by g({term}, {term})"
            if len(text) > 1000:
                self.refuses(TooLarge, {}, taken_out, made)
            else:
                self.assertEqual(first_wrong_line(Library(BOOK), taken_out(made)), 0)
        self.assertGreater(len(text), 1000)

    def with_a_zero_line(self, length):
        """A derivation with a trial term of this length for Ut, and a zero line of Low(Ut)."""
        term = term_text_of_length(length)
        return derivation(f"(g(Any, {term}) = 3 -> g(Any, Ut) = 3) ; demand Ut by {term}",
                          "(Low(Ut) = 0 or f(Low(Ut)) <= Ut) ; zero Low(Ut)", "0 = 0 ; order")


class ErrorsTest(PackageTest):

    def refused(self, kind, fields, *rows):
        """Both functions refuse the derivation of some rows."""
        self.refuses(kind, fields, taken_out, derivation(*rows))
        self.refuses(kind, fields, without_choices, derivation(*rows))

    def test_the_order(self):
        self.refused(NotSimple, {"line": 2}, "n = 1 ; order", "(f(n) <= 3 -> Low(3) <= n) ; least Low(3) by n", "0 = 0 ; fact a")
        self.refused(NotSimple, {"line": 2}, "n = 1 ; order", "0 = 0 ; fact a", "0 = 0 ; order")
        self.refused(NotSimple, {"line": 1}, "0 = 1 ; fact a")
        self.refused(WrongLine, {"line": 2}, "0 = 0 ; order", "n = 1 ; order", "0 = 0 ; order")
        self.refused(WrongLine, {"line": 1}, "| 0 = 0 ; assume")
        self.refuses(NoChoice, {}, taken_out, derivation("0 = 0 ; order"))
        rows = [f"(R({number}) -> R(Any)) ; demand Any by {number}" for number in range(70)]
        self.refused(WrongLine, {"line": 71}, *rows, "0 = 1 ; order")

    def test_too_wide_comes_before_too_large(self):
        rows = [f"(R({number}) -> R(Any)) ; demand Any by {number}" for number in range(1, 65)]
        self.refused(TooWide, {}, *rows, "Any + 1 <= Any + 9 ; order", *["0 = 0 ; order"] * 1000)
        more = [f"Low({number}) <= Low({number}) ; order" for number in range(41)]
        self.refuses(TooWide, {}, without_choices, derivation("(R(99) -> R(Any)) ; demand Any by 99", "Any <= Any + 1 ; order", *more))


class WithoutChoicesTest(PackageTest):

    def test_a_derivation_without_choice_terms(self):
        rows = ["| R(n) ; assume", "(R(n) -> R(n)) ; if 1"]
        self.assertEqual(without_choices(derivation(*rows)).text, "\n".join(rows))

    def test_a_claim_without_choice_terms_stays(self):
        rows = ["(f(n) <= 3 -> f(Low(3)) <= 3) ; demand Low(3) by n", "(R(n) -> R(Any)) ; demand Any by n",
                "(R(Low(3)) -> R(Any)) ; demand Any by Low(3)", "n <= n + 1 ; order"]
        made = derivation(*rows)
        result = without_choices(made)
        self.assertEqual((result.claim.text, listed(result)), ("n <= n + 1", []))
        self.assertEqual(first_wrong_line(Library(BOOK), result), 0)
        self.assertEqual(result.book, BOOK)
        self.assertEqual({line.reason for line in result}, {"assume", "follows", "order", "cases"})

    def test_step_by_step(self):
        rows = ["(f(n) <= 3 -> f(Low(3)) <= 3) ; demand Low(3) by n", "(R(Low(3)) -> R(Any)) ; demand Any by Low(3)",
                "(R(n) -> R(Any)) ; demand Any by n", "(R(Low(3)) -> R(Any)) ; follows 2"]
        first = taken_out(derivation(*rows))
        self.assertEqual(next_choice(derivation(*rows)).text, "Any")
        # Then Low(3) has one trial term, and the claim has it at several places.
        second = taken_out(first)
        self.assertEqual(listed(second), [])
        self.assertEqual(without_choices(derivation(*rows)), second)
        self.assertEqual([member.text for member in members_of(second.claim)], [
            "(R(n) -> R(n))", "(R(n) -> R(0))", "(R(0) -> R(0))", "(R(0) -> R(n))"])

    def test_told_proofs(self):
        worlds = [World.read(proof("every").book, text) for text in (
            "top 0\nf 0\ng 0\nR 0\nS 1", "top 1\nf 1 0\ng 0 1 1 0\nR 1 0\nS 0 1 1 0", "top 1\nf 5 1\ng 0 1 0 0\nR 0 1\nS 1 1 0 0")]
        count = 0
        for name, number in itertools.product(PROOFS, (0, 1, 2, 3)):
            made = proof(name)
            told = tell(made, {word: number for word in made.inputs})
            if any(line.reason == "least" for line in told):
                self.refuses(NotSimple, {"line": 3}, without_choices, told)
                continue
            self.steps(told)
            result = without_choices(told)
            self.assertEqual(first_wrong_line(Library(told.book), result), 0)
            self.assertEqual(listed(result), [])
            self.assertFalse({"demand", "zero"} & {line.reason for line in result})
            for world in worlds:
                told_world = World.read(result.book, world.text)
                truths = [truth_of(member, told_world, {}, Guesses([])) for member in members_of(result.claim)]
                self.assertTrue(any(truths))
            count += 1
        self.assertGreater(count, 25)

    def steps(self, told):
        """Takes out one choice term after another; each result is accepted and has a choice term less."""
        while next_choice(told) is not None:
            result = taken_out(told)
            self.assertEqual(first_wrong_line(Library(told.book), result), 0)
            self.assertNotIn(next_choice(told).text, listed(result))
            before, after = self.counts(told), self.counts(result)
            self.assertLess(after, before)
            told = result

    def counts(self, told):
        """The numbers of the upper choice terms and of all choice terms."""
        terms = [read_term(text) for text in listed(told)]
        return (sum(1 for term in terms if told.book.choice_of(term.name).upper), len(terms))


if __name__ == "__main__":
    unittest.main()

"""Point 44: unfolding."""

import unittest

from support import PackageTest, term_text_of_length

from rightatlast.books import Book
from rightatlast.checker import first_wrong_line
from rightatlast.derivations import Derivation
from rightatlast.errors import TooLarge, WrongBook, WrongLine
from rightatlast.library import Library
from rightatlast.unfolding import unfolded

BOOK = Book.read("fun f 1\nfun g 2\nfun longfunc 2\nrel R 1\npick Low 1: f(y0) <= p1\n"
                 "pick Two 2: (f(p1) <= y0 or y0 = p2)\npick Any 0: R(y0)")


def derivation(*rows):
    """The derivation of some rows."""
    return Derivation.read(BOOK, "\n".join(rows))


def library(**facts):
    """The library with these facts, lists of rows, in their order."""
    found = Library(BOOK)
    for name, rows in facts.items():
        found = found.added(name, derivation(*rows))
    return found


STEP = ["| x <= y ; assume", "| (x <= y -> x <= y + 1) ; order", "| x <= y + 1 ; follows 1 2",
        "(x <= y -> x <= y + 1) ; if 1"]
TWO = ["(x <= y -> x <= y + 1) ; fact step", "(x <= y + 1 -> x <= y + 2) ; fact step y = y + 1",
       "(x <= y -> x <= y + 2) ; follows 1 2"]
LOW = ["(f(z) <= x -> f(Low(x)) <= x) ; demand Low(x) by z", "(f(z) <= x -> Low(x) <= z) ; least Low(x) by z",
       "(Low(x) = 0 or f(Low(x)) <= x) ; zero Low(x)", "(f(z) <= x -> (f(Low(x)) <= x and Low(x) <= z)) ; follows 1 2"]
FACTS = library(step=STEP, two=TWO, low=LOW)


class UnfoldingTest(PackageTest):

    def becomes(self, found, rows, told):
        """The derivation of some rows is accepted, and unfolded it has the told rows; so it is accepted by no fact."""
        result = unfolded(found, derivation(*rows))
        self.assertEqual(result.text.split("\n"), told)
        self.assertEqual(first_wrong_line(Library(BOOK), result), 0)
        self.assertEqual((result.claim, result.book), (derivation(*rows).claim, BOOK))
        self.assertIsInstance(result, Derivation)

    def test_derivations_without_facts(self):
        self.becomes(FACTS, STEP, STEP)
        self.becomes(Library(BOOK), LOW, LOW)

    def test_one_fact(self):
        self.becomes(FACTS, ["(x <= y -> x <= y + 1) ; fact step"], STEP)

    def test_terms_that_are_put(self):
        self.becomes(FACTS, ["(f(y) <= x + 3 -> f(y) <= x + 4) ; fact step x = f(y), y = x + 3"],
                     ["| f(y) <= x + 3 ; assume", "| (f(y) <= x + 3 -> f(y) <= x + 4) ; order",
                      "| f(y) <= x + 4 ; follows 1 2", "(f(y) <= x + 3 -> f(y) <= x + 4) ; if 1"])
        self.becomes(FACTS, ["(y <= x -> y <= x + 1) ; fact step x = y, y = x"],
                     ["| y <= x ; assume", "| (y <= x -> y <= x + 1) ; order", "| y <= x + 1 ; follows 1 2",
                      "(y <= x -> y <= x + 1) ; if 1"])
        self.becomes(FACTS, ["(x <= y -> x <= y + 1) ; fact step u = Any"], STEP)

    def test_terms_in_reasons(self):
        self.becomes(FACTS, ["(f(7) <= Low(u) -> (f(Low(Low(u))) <= Low(u) and Low(Low(u)) <= 7)) ; fact low x = Low(u), "
                             "z = 7"],
                     ["(f(7) <= Low(u) -> f(Low(Low(u))) <= Low(u)) ; demand Low(Low(u)) by 7",
                      "(f(7) <= Low(u) -> Low(Low(u)) <= 7) ; least Low(Low(u)) by 7",
                      "(Low(Low(u)) = 0 or f(Low(Low(u))) <= Low(u)) ; zero Low(Low(u))",
                      "(f(7) <= Low(u) -> (f(Low(Low(u))) <= Low(u) and Low(Low(u)) <= 7)) ; follows 1 2"])

    def test_facts_within_facts(self):
        second = ["| x <= y + 1 ; assume", "| (x <= y + 1 -> x <= y + 2) ; order", "| x <= y + 2 ; follows 5 6",
                  "(x <= y + 1 -> x <= y + 2) ; if 5"]
        self.becomes(FACTS, TWO, STEP + second + ["(x <= y -> x <= y + 2) ; follows 4 8"])

    def test_the_fact_within_a_fact_is_replaced_first(self):
        # Within two, step is used with y + 1 for y. Then 4 is put for y, all at once: y + 1 becomes 5.
        self.becomes(FACTS, ["(y <= 4 -> y <= 6) ; fact two x = y, y = 4"],
                     ["| y <= 4 ; assume", "| (y <= 4 -> y <= 5) ; order", "| y <= 5 ; follows 1 2",
                      "(y <= 4 -> y <= 5) ; if 1", "| y <= 5 ; assume", "| (y <= 5 -> y <= 6) ; order",
                      "| y <= 6 ; follows 5 6", "(y <= 5 -> y <= 6) ; if 5", "(y <= 4 -> y <= 6) ; follows 4 8"])

    def test_facts_within_boxes(self):
        self.becomes(FACTS, ["| x <= y ; assume", "| | R(x) ; assume", "| | (x <= y -> x <= y + 1) ; fact step",
                             "| | x <= y + 1 ; follows 3 1", "| (R(x) -> x <= y + 1) ; if 2",
                             "(x <= y -> (R(x) -> x <= y + 1)) ; if 1"],
                     ["| x <= y ; assume", "| | R(x) ; assume", "| | | x <= y ; assume",
                      "| | | (x <= y -> x <= y + 1) ; order", "| | | x <= y + 1 ; follows 3 4",
                      "| | (x <= y -> x <= y + 1) ; if 3", "| | x <= y + 1 ; follows 6 1", "| (R(x) -> x <= y + 1) ; if 2",
                      "(x <= y -> (R(x) -> x <= y + 1)) ; if 1"])

    def test_a_fact_that_ends_a_box(self):
        self.becomes(FACTS, ["| R(x) ; assume", "| (x <= y -> x <= y + 1) ; fact step",
                             "(R(x) -> (x <= y -> x <= y + 1)) ; if 1"],
                     ["| R(x) ; assume", "| | x <= y ; assume", "| | (x <= y -> x <= y + 1) ; order",
                      "| | x <= y + 1 ; follows 2 3", "| (x <= y -> x <= y + 1) ; if 2",
                      "(R(x) -> (x <= y -> x <= y + 1)) ; if 1"])

    def test_cited_numbers_behind_several_facts(self):
        rows = ["0 = 0 ; order", "(x <= y -> x <= y + 1) ; fact step", "1 = 1 ; order",
                "(x <= y -> x <= y + 2) ; fact two", "| R(x) ; assume", "| (R(x) or R(y)) ; among 5",
                "(R(x) -> (R(x) or R(y))) ; if 5", "(0 = 0 and ((x <= y -> x <= y + 1) and (x <= y -> x <= y + 2))) "
                "; follows 1 2 4 3 1", "(x <= y -> x <= y + 1) ; follows 8"]
        told = unfolded(FACTS, derivation(*rows)).lines
        self.assertEqual(len(told), 1 + 4 + 1 + 9 + 5)
        self.assertEqual([told[place].numbers for place in (16, 17, 18, 19)], [(16,), (16,), (1, 5, 15, 6, 1), (19,)])
        self.assertEqual([told[place].numbers for place in range(6, 15)],
                         [(), (), (7, 8), (7,), (), (), (11, 12), (11,), (10, 14)])
        self.assertEqual(first_wrong_line(Library(BOOK), unfolded(FACTS, derivation(*rows))), 0)

    def test_a_fact_with_swaps_and_cases(self):
        cases = ["| x = y ; assume", "| | R(x) ; assume", "| | R(y) ; swap 1 2", "| (R(x) -> R(y)) ; if 2",
                 "| (not x = y or (R(x) -> R(y))) ; among 4", "| not x = y ; assume",
                 "| (not x = y or (R(x) -> R(y))) ; among 6", "(not x = y or (R(x) -> R(y))) ; cases 1 6"]
        found = library(step=STEP, cases=cases)
        self.becomes(found, ["0 = 0 ; order", "(not f(z) = 3 or (R(f(z)) -> R(3))) ; fact cases y = 3, x = f(z)",
                             "(0 = 0 and (not f(z) = 3 or (R(f(z)) -> R(3)))) ; follows 2 1"],
                     ["0 = 0 ; order", "| f(z) = 3 ; assume", "| | R(f(z)) ; assume", "| | R(3) ; swap 2 3",
                      "| (R(f(z)) -> R(3)) ; if 3", "| (not f(z) = 3 or (R(f(z)) -> R(3))) ; among 5",
                      "| not f(z) = 3 ; assume", "| (not f(z) = 3 or (R(f(z)) -> R(3))) ; among 7",
                      "(not f(z) = 3 or (R(f(z)) -> R(3))) ; cases 2 7",
                      "(0 = 0 and (not f(z) = 3 or (R(f(z)) -> R(3)))) ; follows 9 1"])

    def test_a_tower_of_facts(self):
        found = Library(BOOK).added("a", derivation("0 = 0 ; order"))
        for one, two in zip("abcdefghijklmnopqrstuvwxyz"[:-1], "bcdefghijklmnopqrstuvwxyz"):
            found = found.added(two, derivation(f"0 = 0 ; fact {one}", "0 = 0 ; follows 1"))
        told = unfolded(found, derivation("0 = 0 ; fact z"))
        self.assertEqual([line.numbers for line in told], [()] + [(number,) for number in range(1, 26)])
        self.assertEqual(first_wrong_line(Library(BOOK), told), 0)

    def test_nothing_that_is_passed_is_changed(self):
        found = derivation(*TWO)
        unfolded(FACTS, found)
        unfolded(FACTS, derivation("(y <= 4 -> y <= 6) ; fact two x = y, y = 4"))
        self.assertEqual((found.text, FACTS.fact("two").text, FACTS.fact("step").text),
                         ("\n".join(TWO), "\n".join(TWO), "\n".join(STEP)))


class ErrorsTest(PackageTest):

    def test_wrong_books_and_wrong_lines(self):
        other = Book.read("fun f 1")
        wrong = ["x = x ; order", "x = y ; order"]
        self.refuses(WrongBook, {}, unfolded, FACTS, Derivation.read(other, "\n".join(wrong)))
        self.refuses(WrongLine, {"line": 2}, unfolded, FACTS, derivation(*wrong))
        self.refuses(WrongLine, {"line": 1}, unfolded, FACTS, derivation("0 = 0 ; fact other"))
        self.refuses(WrongLine, {"line": 1}, unfolded, Library(BOOK), derivation(*TWO))
        self.refuses(WrongLine, {"line": 1}, unfolded, FACTS, derivation("| x = x ; assume"))

    def test_wrong_lines_come_before_what_is_too_large(self):
        found = self.long_library(1000)
        self.refuses(TooLarge, {}, unfolded, found, derivation(*["0 = 0 ; fact long"] * 2))
        self.refuses(WrongLine, {"line": 3}, unfolded, found,
                     derivation(*["0 = 0 ; fact long"] * 2, "x = y ; order"))

    def long_library(self, count):
        """A library with a fact of this number of lines."""
        return library(long=["0 = 0 ; order"] * count)

    def test_1200_and_1201_lines(self):
        for count, more in ((1200, 0), (1199, 1), (600, 0), (1000, 200)):
            rows = ["0 = 0 ; fact long"] * (2 if count == 600 else 1) + ["0 = 0 ; order"] * more
            self.assertEqual(len(unfolded(self.long_library(count), derivation(*rows))), 1200)
            self.refuses(TooLarge, {}, unfolded, self.long_library(count), derivation(*rows, "0 = 0 ; order"))
            self.refuses(TooLarge, {}, unfolded, self.long_library(count), derivation("0 = 0 ; order", *rows))

    def test_facts_that_become_too_long_by_facts(self):
        found = self.long_library(700)
        found = found.added("longer", derivation("0 = 0 ; fact long", "0 = 0 ; fact long"))
        self.refuses(TooLarge, {}, unfolded, found, derivation("0 = 0 ; fact longer"))
        self.assertEqual(len(unfolded(found, derivation("0 = 0 ; fact long"))), 700)

    def test_facts_that_double(self):
        found = Library(BOOK).added("a", derivation("0 = 0 ; order"))
        for one, two in zip("abcdefghijklmnopqrstuvwxyz"[:-1], "bcdefghijklmnopqrstuvwxyz"):
            found = found.added(two, derivation(f"0 = 0 ; fact {one}", f"0 = 0 ; fact {one}"))
        self.assertEqual(len(unfolded(found, derivation("0 = 0 ; fact k"))), 1024)
        self.refuses(TooLarge, {}, unfolded, found, derivation("0 = 0 ; fact l"))
        self.refuses(TooLarge, {}, unfolded, found, derivation("0 = 0 ; fact z"))

    def test_depth_20_and_21(self):
        def nested(depth, last):
            """Boxes up to a depth with a line in the innermost one."""
            rows = [f"{'| ' * number}R({number}) ; assume" for number in range(1, depth + 1)]
            return rows + ["| " * depth + last, "0 = 0 ; order"]

        for fact_depth, depth in ((1, 19), (10, 10), (20, 0), (0, 20)):
            found = library(deep=nested(fact_depth, "x = x ; order"))
            told = unfolded(found, derivation(*nested(depth, "0 = 0 ; fact deep")))
            self.assertEqual(max(line.depth for line in told), 20)
            self.assertEqual(first_wrong_line(Library(BOOK), told), 0)
        for fact_depth, depth in ((1, 20), (11, 10), (20, 1)):
            found = library(deep=nested(fact_depth, "x = x ; order"))
            self.refuses(TooLarge, {}, unfolded, found, derivation(*nested(depth, "0 = 0 ; fact deep")))

    def test_a_sum_that_becomes_too_large_on_the_way(self):
        # The claim does not show the name; within the fact x + 5 cannot have 5 more.
        found = library(sums=["x + 5 = x + 5 ; order", "0 = 0 ; order"])
        self.assertEqual(unfolded(found, derivation("0 = 0 ; fact sums x = y + 4")).lines[0].text,
                         "y + 9 = y + 9 ; order")
        self.refuses(TooLarge, {}, unfolded, found, derivation("0 = 0 ; fact sums x = y + 5"))
        self.refuses(TooLarge, {}, unfolded, found, derivation("0 = 0 ; fact sums x = 95"))

    def test_also_if_the_end_would_be_small_enough(self):
        # Within outer, sums is used with y + 5 for x, which is too large before y is replaced by 0.
        found = library(sums=["x + 5 = x + 5 ; order", "0 = 0 ; order"], outer=["0 = 0 ; fact sums x = y + 5"])
        self.refuses(TooLarge, {}, unfolded, found, derivation("0 = 0 ; fact outer y = 0"))

    def test_a_formula_that_becomes_too_large(self):
        long_term = term_text_of_length(400)
        found = library(long=["(x = x and x = x) ; order", "0 = 0 ; order"])
        self.refuses(TooLarge, {}, unfolded, found, derivation(f"0 = 0 ; fact long x = {long_term}"))
        short = term_text_of_length(240)
        self.assertEqual(len(unfolded(found, derivation(f"0 = 0 ; fact long x = {short}"))), 2)

    def test_terms_that_become_too_large(self):
        found = library(long=["(Low(g(x, x)) = 0 or f(Low(g(x, x))) <= g(x, x)) ; zero Low(g(x, x))", "0 = 0 ; order"])
        self.refuses(TooLarge, {}, unfolded, found, derivation(f"0 = 0 ; fact long x = {term_text_of_length(300)}"))
        deep = "x"
        for _ in range(18):
            deep = f"f({deep})"
        self.refuses(TooLarge, {}, unfolded, found, derivation(f"0 = 0 ; fact long x = {deep}"))

    def test_demands_that_become_too_large(self):
        # For `zero HEAD` the demand is `HEAD by HEAD`, whose formula has the goal twice; the line has it once.
        head = "Two(1, x)"
        goal = f"(f(1) <= {head} or {head} = x)"
        found = library(zero=[f"({head} = 0 or {goal}) ; zero {head}", "0 = 0 ; order"])
        fits = derivation(f"0 = 0 ; fact zero x = {term_text_of_length(120)}")
        self.assertEqual(len(unfolded(found, fits)), 2)
        length = next(length for length in range(120, 400) if 2 * (3 * length + 30) + 6 > 1000)
        long_term = term_text_of_length(length)
        line = f"({head} = 0 or {goal})".replace("x", long_term)
        self.assertLess(len(line), 1000)
        self.refuses(TooLarge, {}, unfolded, found, derivation(f"0 = 0 ; fact zero x = {long_term}"))
        least = f"((f(1) <= z or z = x) -> {head} <= z)"
        found = library(least=[f"{least} ; least {head} by z", "0 = 0 ; order"])
        self.assertLess(len(least.replace("x", long_term)), 1000)
        self.assertEqual(len(unfolded(found, derivation(f"0 = 0 ; fact least x = {long_term}"))), 2)
        long_term = term_text_of_length(300)
        self.assertLess(len(least.replace("x", long_term)), 1000)
        self.refuses(TooLarge, {}, unfolded, found, derivation(f"0 = 0 ; fact least x = {long_term}"))

    def test_facts_that_are_not_used_do_not_matter(self):
        found = library(sums=["x + 5 = x + 5 ; order", "0 = 0 ; order"], outer=["0 = 0 ; fact sums x = y + 5"])
        self.assertEqual(unfolded(found, derivation("0 = 0 ; fact sums")).text, "x + 5 = x + 5 ; order\n0 = 0 ; order")


if __name__ == "__main__":
    unittest.main()

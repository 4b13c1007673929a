"""Points 36 to 42 and 45: right and wrong lines, accepted derivations, terms put for names."""

import unittest

from support import PackageTest, nested_formula, term_text_of_length

from rightatlast.books import Book
from rightatlast.checker import first_wrong_line, is_accepted, put_in_derivation
from rightatlast.derivations import Derivation
from rightatlast.errors import BadWord, HasFact, HasLetters, TooLarge, Unfit, WrongBook
from rightatlast.library import Library
from rightatlast.termtext import read_term

BOOK = Book.read("fun f 1\nfun g 2\nfun longfunc 2\nrel R 1\nrel S 2\npick Low 1: f(y0) <= p1\npick Any 0: R(y0)\n"
                 "pick Up 1: Low(y0) = p1\npick Two 2: (f(p1) <= y0 or y0 = p2)")
EMPTY = Library(BOOK)
EXAMPLE = ["| x <= y ; assume", "| (x <= y -> x <= y + 1) ; order", "| x <= y + 1 ; follows 1 2",
           "| (R(x) or x <= y + 1) ; among 3", "(x <= y -> (R(x) or x <= y + 1)) ; if 1"]


def derivation(*rows):
    """The derivation of some rows."""
    return Derivation.read(BOOK, "\n".join(rows))


class LineTest(PackageTest):
    """A test case for derivations by rows, checked by a library."""

    library = EMPTY

    def right(self, *rows):
        """All lines are right."""
        self.assertEqual(first_wrong_line(self.library, derivation(*rows)), 0, rows)
        self.assertIs(is_accepted(self.library, derivation(*rows)), True)

    def wrong(self, line, *rows):
        """The first wrong line is this one; without the lines from it on there is none but for the last depth."""
        self.assertEqual(first_wrong_line(self.library, derivation(*rows)), line, rows)
        self.assertIs(is_accepted(self.library, derivation(*rows)), False)

    def last_wrong(self, *rows):
        """The last line is the first wrong one, whatever right line stands behind it."""
        self.wrong(len(rows), *rows)
        self.wrong(len(rows), *rows, "x = x ; order")


class ExampleTest(LineTest):

    def test_the_example_of_the_document(self):
        book = Book.read("rel R 1")
        for rows, wrong in ((EXAMPLE, 0), (EXAMPLE[:2] + ["| x <= y + 1 ; follows 1"] + EXAMPLE[3:], 3),
                            (EXAMPLE[:4] + ["x <= y + 1 ; follows 1 2"], 5)):
            found = Derivation.read(book, "\n".join(rows))
            self.assertEqual(first_wrong_line(Library(book), found), wrong)
            self.assertIs(is_accepted(Library(book), found), wrong == 0)

    def test_every_library_accepts_it(self):
        self.right(*EXAMPLE)
        library = EMPTY.added("zero", derivation("0 <= x ; order"))
        self.assertTrue(is_accepted(library, derivation(*EXAMPLE)))

    def test_the_first_of_several_wrong_lines(self):
        self.wrong(2, "x = x ; order", "x = y ; order", "y = z ; order", "x = x ; order")
        self.wrong(1, "R(x) ; follows", "x = y ; order")
        self.wrong(3, "x = x ; order", "y = y ; order", "x = y ; follows 1 2", "| | x = x ; order")
        self.wrong(2, "x = x ; order", "| | x = x ; order", "x = y ; order")


class DepthTest(LineTest):

    def test_depths(self):
        self.right("x = x ; order")
        self.wrong(1, "| x = x ; order", "x = x ; order")
        self.wrong(1, "x = x ; assume", "x = x ; order")
        self.wrong(1, "| | x = x ; assume", "x = x ; order")
        self.wrong(2, "| x = y ; assume", "| | | x = y ; assume", "x = x ; order")
        self.wrong(2, "| x = y ; assume", "| | x = x ; order", "x = x ; order")
        self.wrong(3, "| x = y ; assume", "x = x ; order", "| x = x ; order", "x = x ; order")
        self.right("| x = y ; assume", "| | R(x) ; assume", "| | | R(y) ; assume", "x = x ; order")
        self.right("| x = y ; assume", "| | R(x) ; assume", "| R(y) ; assume", "x = x ; order")

    def test_the_last_line(self):
        self.wrong(1, "| x = x ; assume")
        self.wrong(2, "| x = x ; assume", "| x = x ; order")
        self.wrong(3, "x = x ; order", "| x = x ; assume", "| | x = x ; assume")
        self.wrong(2, "| x = x ; assume", "| x = y ; order")
        self.right("| x = x ; assume", "x = x ; order")

    def test_a_last_line_that_is_too_deep_behind_a_wrong_one(self):
        self.wrong(1, "x = y ; order", "| x = x ; assume")


class OrderTest(LineTest):

    def test_right_and_wrong(self):
        self.right("(x <= y -> x <= y + 1) ; order")
        self.last_wrong("(x <= y + 1 -> x <= y) ; order")
        self.last_wrong("(R(x) or not R(x)) ; order")
        self.last_wrong("(x = x and (x = y -> (x = z or (x = u or (x = v or x = y))))) ; order")
        self.right("(x = y -> (x = z or (x = u or (x = v or x = y)))) ; order")


class FollowsTest(LineTest):

    def test_right_and_wrong(self):
        rows = ["| R(x) ; assume", "| | (R(x) -> R(y)) ; assume", "| | R(y) ; follows 1 2"]
        self.right(*rows, "x = x ; order")
        self.last_wrong(*rows[:2], "| | R(y) ; follows 2")
        self.last_wrong(*rows[:2], "| | R(y) ; follows")
        self.last_wrong(*rows[:2], "| | R(z) ; follows 1 2")
        self.right("(R(x) or not R(x)) ; follows")
        self.right("x = x ; order", "(x = x or R(x)) ; follows 1 1 1")

    def test_lines_that_may_not_be_cited(self):
        self.last_wrong("| R(x) ; assume", "R(x) ; follows 1")
        self.last_wrong("| R(x) ; assume", "| x = x ; order", "| R(x) ; assume", "| R(x) ; follows 1")
        self.last_wrong("(R(x) or not R(x)) ; follows 1")
        self.last_wrong("(R(x) or not R(x)) ; follows 2")
        self.last_wrong("(R(x) or not R(x)) ; follows 1200")
        self.last_wrong("x = x ; order", "(R(x) or not R(x)) ; follows 1 2")
        self.last_wrong("| R(x) ; assume", "(R(x) or not R(x)) ; follows 1")

    def test_ten_atoms_and_eleven(self):
        wide = "(" * 9 + "R(0)" + "".join(f" or R({number}))" for number in range(1, 10))
        self.right(f"({wide} or not R(3)) ; follows")
        self.last_wrong(f"({wide} or (R(10) or not R(3))) ; follows")

    def test_twelve_lines(self):
        rows = [f"{'| ' * depth}R({depth}) ; assume" for depth in range(1, 11)]
        cited = "1 2 3 4 5 6 7 8 9 10 1 2"
        self.right(*rows, f"{'| ' * 10}(R(1) and R(10)) ; follows {cited}", "x = x ; order")


class AmongTest(LineTest):

    def test_right_and_wrong(self):
        first = "| (R(x) or (R(y) or x = y)) ; assume"
        for formula in ("(R(x) or (R(y) or x = y))", "((x = y or R(y)) or R(x))", "((R(z) or x = y) or (R(x) or R(y)))",
                        "(R(y) or (x = y or (R(y) or R(x))))"):
            self.right(first, f"| {formula} ; among 1", "x = x ; order")
        for formula in ("R(x)", "(R(x) or R(y))", "(R(x) or (R(y) or y = x))", "(R(x) or not (R(y) or x = y))",
                        "((R(x) or R(y)) and x = y)", "not not (R(x) or (R(y) or x = y))", "x = x"):
            self.last_wrong(first, f"| {formula} ; among 1")
        self.right("| R(x) ; assume", "| (R(y) or R(x)) ; among 1", "x = x ; order")
        self.right("| (R(x) or R(x)) ; assume", "| R(x) ; among 1", "x = x ; order")
        self.right("| (R(x) and R(y)) ; assume", "| ((R(x) and R(y)) or R(z)) ; among 1", "x = x ; order")
        self.last_wrong("| (R(x) and R(y)) ; assume", "| (R(x) or R(y)) ; among 1")

    def test_a_line_that_may_not_be_cited(self):
        self.last_wrong("| R(x) ; assume", "(R(x) or R(y)) ; among 1")
        self.last_wrong("(x = x or R(y)) ; among 1")

    def test_more_than_ten_members(self):
        wide = "(" * 12 + "R(0)" + "".join(f" or R({number}))" for number in range(1, 13))
        self.right(f"| {wide} ; assume", f"| (R(x) or {wide}) ; among 1", "x = x ; order")


class IfTest(LineTest):

    def test_right_and_wrong(self):
        box = ["| R(x) ; assume", "| R(y) ; assume", "| (R(x) or R(y)) ; among 2"]
        self.right(*box, "(R(y) -> (R(x) or R(y))) ; if 2")
        self.right(*box, "(R(x) -> R(x)) ; if 1")
        for formula in ("(R(x) -> (R(x) or R(y)))", "(R(y) -> R(y))", "(R(y) -> (R(y) or R(x)))", "(R(x) or R(y))",
                        "(R(y) and (R(x) or R(y)))", "(R(y) or (R(x) or R(y)))", "((R(x) or R(y)) -> R(y))"):
            self.last_wrong(*box, f"{formula} ; if 2")

    def test_boxes_that_may_not_be_cited(self):
        box = ["| R(x) ; assume", "| (R(x) or R(y)) ; among 1"]
        self.last_wrong(*box, "| (R(x) -> (R(x) or R(y))) ; if 1")
        self.last_wrong(*box, "(R(x) -> (R(x) or R(y))) ; if 2")
        self.last_wrong(*box, "(R(x) -> (R(x) or R(y))) ; if 3")
        self.last_wrong(*box, "(R(x) -> (R(x) or R(y))) ; if 4")
        self.last_wrong("| R(x) ; assume", "| | R(y) ; assume", "(R(x) -> R(y)) ; if 1")
        self.last_wrong("| R(x) ; assume", "| | R(y) ; assume", "(R(y) -> R(y)) ; if 2")
        self.right("| R(x) ; assume", "| | R(y) ; assume", "| (R(y) -> R(y)) ; if 2", "(R(x) -> (R(y) -> R(y))) ; if 1")

    def test_a_box_that_begins_later(self):
        box = ["| R(x) ; assume", "| R(x) ; follows 1"]
        self.wrong(1, "(R(x) -> R(x)) ; if 2", *box, "(R(x) -> R(x)) ; if 2")
        self.wrong(1, "R(x) ; cases 2 4", *box, "| not R(x) ; assume", "| R(x) ; follows 2 4", "x = x ; order")
        self.wrong(1, "(R(x) or not R(x)) ; follows 2", "x = x ; order")
        self.wrong(2, *box[:1], "| (R(y) -> R(y)) ; if 3", "| | R(y) ; assume", "x = x ; order")

    def test_a_box_from_afar_and_twice(self):
        self.right("| R(x) ; assume", "x = x ; order", "(R(x) -> R(x)) ; if 1", "| R(y) ; assume",
                   "| (R(x) -> R(x)) ; if 1", "x = x ; order")

    def test_a_formula_that_is_too_large(self):
        assumed = f"x = {term_text_of_length(490)}"
        shown = f"y = {term_text_of_length(490)}"
        self.last_wrong(f"| {assumed} ; assume", f"| | {shown} ; assume", f"| ({shown} -> {shown}) ; follows",
                        f"| {assumed} ; follows 1", f"x = {term_text_of_length(300)} ; if 1")
        self.last_wrong(f"| {assumed} ; assume", f"| ({assumed} or R(x)) ; among 1", "R(x) ; if 1")


class CasesTest(LineTest):

    BOXES = ["| R(x) ; assume", "| (R(x) or not R(x)) ; among 1", "| not R(x) ; assume",
             "| (R(x) or not R(x)) ; among 3"]

    def test_right_and_wrong(self):
        self.right(*self.BOXES, "(R(x) or not R(x)) ; cases 1 3")
        self.last_wrong(*self.BOXES, "(R(x) or not R(x)) ; cases 3 1")
        self.last_wrong(*self.BOXES, "(R(x) or not R(x)) ; cases 1 1")
        self.last_wrong(*self.BOXES, "(not R(x) or R(x)) ; cases 1 3")
        self.last_wrong(*self.BOXES, "R(x) ; cases 1 3")

    def test_what_the_boxes_show(self):
        first = ["| R(x) ; assume", "| (R(x) or R(y)) ; among 1"]
        second = ["| not R(x) ; assume", "| x = x ; order"]
        for formula in ("(R(x) or R(y))", "x = x"):
            self.last_wrong(*first, *second, f"{formula} ; cases 1 3")

    def test_what_the_boxes_assume(self):
        first = ["| R(x) ; assume", "| x = x ; order"]
        for formula in ("R(x)", "not R(y)", "not not R(x)", "x = y"):
            self.last_wrong(*first, f"| {formula} ; assume", "| x = x ; order", "x = x ; cases 1 3")
        self.right("| not R(x) ; assume", "| x = x ; order", "| not not R(x) ; assume", "| x = x ; order",
                   "x = x ; cases 1 3")

    def test_boxes_that_may_not_be_cited(self):
        self.last_wrong(*self.BOXES, "| (R(x) or not R(x)) ; cases 1 3")
        self.last_wrong(*self.BOXES, "(R(x) or not R(x)) ; cases 1 4")
        self.last_wrong(*self.BOXES, "(R(x) or not R(x)) ; cases 2 3")
        self.last_wrong("| R(x) ; assume", "| x = x ; order", "| not R(x) ; assume", "| | R(y) ; assume",
                        "| | x = x ; order", "x = x ; cases 1 3")
        self.last_wrong("| R(x) ; assume", "| | R(y) ; assume", "| | x = x ; order", "| not R(x) ; assume",
                        "| x = x ; order", "x = x ; cases 1 4")

    def test_a_formula_that_is_too_large(self):
        deep = nested_formula(20).text
        self.last_wrong(f"| {deep} ; assume", "| x = x ; order", f"| {deep} ; assume", "| x = x ; order",
                        "x = x ; cases 1 3")
        deep = nested_formula(19).text
        self.right(f"| {deep} ; assume", "| x = x ; order", f"| not {deep} ; assume", "| x = x ; order",
                   "x = x ; cases 1 3")


class SwapTest(LineTest):

    def test_right_and_wrong(self):
        rows = ["| x = f(y) ; assume", "| | (R(x) and S(x + 2, Low(x))) ; assume"]
        for formula in ("(R(f(y)) and S(f(y) + 2, Low(x)))", "(R(x) and S(f(y) + 2, Low(x)))",
                        "(R(x) and S(x + 2, Low(x)))"):
            self.right(*rows, f"| | {formula} ; swap 1 2", "x = x ; order")
        for formula in ("(R(f(y)) and S(f(y) + 2, Low(f(y))))", "(R(y) and S(x + 2, Low(x)))", "R(x)",
                        "(R(f(y)) and S(f(y) + 1, Low(x)))"):
            self.last_wrong(*rows, f"| | {formula} ; swap 1 2")
        self.last_wrong(*rows, "| | (R(f(y)) and S(x + 2, Low(x))) ; swap 2 1")
        self.last_wrong(*rows, "| | (R(x) and S(x + 2, Low(x))) ; swap 2 2")

    def test_both_directions(self):
        rows = ["| x = f(y) ; assume", "| | R(f(y)) ; assume"]
        self.right(*rows, "| | R(x) ; swap 1 2", "x = x ; order")
        self.right("| x = y ; assume", "| y = x ; swap 1 1", "| x = x ; swap 1 1", "x = x ; order")

    def test_the_first_cited_line_is_an_equality(self):
        for formula in ("x <= y", "S(x, y)", "not x = y", "(x = y and x = y)"):
            self.last_wrong(f"| {formula} ; assume", "| | R(x) ; assume", "| | R(y) ; swap 1 2")

    def test_lines_that_may_not_be_cited(self):
        self.last_wrong("| x = y ; assume", "x = x ; order", "y = x ; swap 1 2")
        self.last_wrong("| x = y ; assume", "x = x ; order", "x = x ; swap 2 1")
        self.last_wrong("x = x ; order", "x = x ; swap 1 2")
        self.last_wrong("x = x ; order", "x = x ; swap 2 1")


class ChoiceLinesTest(LineTest):

    def test_demand_lines(self):
        self.right("(f(f(3)) <= x -> f(Low(x)) <= x) ; demand Low(x) by f(3)")
        self.right("(Low(3) = x -> Low(Up(x)) = x) ; demand Up(x) by 3")
        self.last_wrong("(f(f(3)) <= x -> Low(x) <= f(3)) ; demand Low(x) by f(3)")
        self.last_wrong("(f(f(2)) <= x -> f(Low(x)) <= x) ; demand Low(x) by f(3)")
        self.last_wrong("(f(f(3)) <= y -> f(Low(y)) <= y) ; demand Low(x) by f(3)")
        self.last_wrong("f(Low(x)) <= x ; demand Low(x) by f(3)")

    def test_least_lines(self):
        self.right("(f(f(3)) <= x -> Low(x) <= f(3)) ; least Low(x) by f(3)")
        self.right("(R(x + 1) -> Any <= x + 1) ; least Any by x + 1")
        self.last_wrong("(f(f(3)) <= x -> f(Low(x)) <= x) ; least Low(x) by f(3)")
        self.last_wrong("(f(f(3)) <= x -> f(3) <= Low(x)) ; least Low(x) by f(3)")
        self.last_wrong("(Low(3) = x -> Up(x) <= 3) ; least Up(x) by 3")

    def test_zero_lines(self):
        self.right("(Low(x) = 0 or f(Low(x)) <= x) ; zero Low(x)")
        self.right("(Up(x) = 0 or Low(Up(x)) = x) ; zero Up(x)")
        self.last_wrong("(0 = Low(x) or f(Low(x)) <= x) ; zero Low(x)")
        self.last_wrong("(f(Low(x)) <= x or Low(x) = 0) ; zero Low(x)")
        self.last_wrong("(Low(x) = 0 or f(0) <= x) ; zero Low(x)")
        self.last_wrong("(Low(y) = 0 or f(Low(y)) <= x) ; zero Low(x)")

    def test_demands_that_are_too_large(self):
        wide = "x"
        for _ in range(4):
            wide = f"g({wide}, {wide})"
        book = Book.read("fun g 2\npick Four 1: (g(g(p1, p1), g(p1, p1)) = y0 and y0 = y0)")
        for reason in (f"demand Four({wide}) by 1", f"least Four({wide}) by 1", f"zero Four({wide})"):
            found = Derivation.read(book, f"x = x ; order\nx = x ; {reason}\nx = x ; order")
            self.assertEqual(first_wrong_line(Library(book), found), 2)


class FactLinesTest(LineTest):

    library = EMPTY.added("low", derivation("(f(z) <= x -> f(Low(x)) <= x) ; demand Low(x) by z")) \
        .added("step", derivation("(x <= y -> x <= y + 1) ; order")).added("plain", derivation("0 = 0 ; order"))

    def test_claims_with_terms_put_for_names(self):
        self.right("(f(z) <= x -> f(Low(x)) <= x) ; fact low")
        self.right("(f(3) <= x -> f(Low(x)) <= x) ; fact low z = 3")
        self.right("(f(x) <= z -> f(Low(z)) <= z) ; fact low x = z, z = x")
        self.right("(f(z) <= Low(3) -> f(Low(Low(3))) <= Low(3)) ; fact low x = Low(3)")
        self.right("(x + 2 <= y + 8 -> x + 2 <= y + 9) ; fact step x = x + 2, y = y + 8")
        self.right("(3 <= 7 -> 3 <= 8) ; fact step x = 3, y = 7")
        self.right("0 = 0 ; fact plain")

    def test_names_that_do_not_occur_in_the_claim(self):
        self.right("0 = 0 ; fact plain x = y, y = Any")
        self.right("(f(z) <= x -> f(Low(x)) <= x) ; fact low y = 3, low = x")

    def test_other_formulas_and_unknown_facts(self):
        self.last_wrong("(f(z) <= x -> f(Low(x)) <= x) ; fact low z = 3")
        self.last_wrong("(f(3) <= x -> f(Low(x)) <= x) ; fact low")
        self.last_wrong("(f(x) <= x -> f(Low(x)) <= x) ; fact low x = z, z = x")
        self.last_wrong("0 = 0 ; fact other")
        self.last_wrong("0 = 0 ; fact zero")
        self.assertEqual(first_wrong_line(EMPTY, derivation("0 = 0 ; fact plain")), 1)

    def test_a_claim_that_would_be_too_large(self):
        self.right("(x <= y + 8 -> x <= y + 9) ; fact step y = y + 8")
        self.last_wrong("(x <= y + 9 -> x <= y + 9) ; fact step y = y + 9")
        self.last_wrong("(x <= 99 -> x <= 99) ; fact step y = 99")

    def test_facts_within_boxes(self):
        self.right("| x <= y ; assume", "| (x <= y -> x <= y + 1) ; fact step", "| x <= y + 1 ; follows 1 2",
                   "(x <= y -> x <= y + 1) ; if 1")


class WrongBookTest(LineTest):

    def test_other_books(self):
        other = Book.read(BOOK.text + "\nfun h 1")
        found = Derivation.read(other, "x = y ; order")
        self.refuses(WrongBook, {}, first_wrong_line, EMPTY, found)
        self.refuses(WrongBook, {}, is_accepted, EMPTY, found)
        self.refuses(WrongBook, {}, is_accepted, Library(Book.read("")), derivation("x = x ; order"))

    def test_an_equal_book(self):
        self.assertTrue(is_accepted(Library(Book.read(BOOK.text)), derivation("x = x ; order")))


class PutTest(PackageTest):

    def put(self, found, **terms):
        """The rows of a derivation with terms, given by their texts, put for names."""
        return put_in_derivation(found, {name: read_term(text) for name, text in terms.items()}).text.split("\n")

    def test_formulas_and_reasons(self):
        found = derivation("| f(z) <= x ; assume", "| (f(z) <= x -> f(Low(x)) <= x) ; demand Low(x) by z",
                           "| f(Low(x)) <= x ; follows 1 2", "(f(z) <= x -> f(Low(x)) <= x) ; if 1",
                           "(f(z) <= x -> Low(x) <= z) ; least Low(x) by z", "(Low(x) = 0 or f(Low(x)) <= x) ; zero Low(x)")
        result = put_in_derivation(found, {"x": read_term("Low(y + 1)"), "z": read_term("5")})
        self.assertEqual(result.text.split("\n"), [
            "| f(5) <= Low(y + 1) ; assume",
            "| (f(5) <= Low(y + 1) -> f(Low(Low(y + 1))) <= Low(y + 1)) ; demand Low(Low(y + 1)) by 5",
            "| f(Low(Low(y + 1))) <= Low(y + 1) ; follows 1 2",
            "(f(5) <= Low(y + 1) -> f(Low(Low(y + 1))) <= Low(y + 1)) ; if 1",
            "(f(5) <= Low(y + 1) -> Low(Low(y + 1)) <= 5) ; least Low(Low(y + 1)) by 5",
            "(Low(Low(y + 1)) = 0 or f(Low(Low(y + 1))) <= Low(y + 1)) ; zero Low(Low(y + 1))"])
        self.assertTrue(is_accepted(EMPTY, found) and is_accepted(EMPTY, result))
        self.assertIsInstance(result, Derivation)
        self.assertEqual((result.book, result.claim.text), (BOOK, result.lines[-1].formula.text))
        self.assertEqual(found.lines[0].text, "| f(z) <= x ; assume")

    def test_all_at_once(self):
        found = derivation("(x <= y -> x <= y + 1) ; order")
        self.assertEqual(self.put(found, x="y", y="x"), ["(y <= x -> y <= x + 1) ; order"])
        self.assertEqual(self.put(found, x="f(y)", y="f(x)"), ["(f(y) <= f(x) -> f(y) <= f(x) + 1) ; order"])

    def test_sums_that_fold(self):
        found = derivation("(x <= y -> x <= y + 1) ; order")
        self.assertEqual(self.put(found, y="y + 8"), ["(x <= y + 8 -> x <= y + 9) ; order"])
        self.assertEqual(self.put(found, y="98"), ["(x <= 98 -> x <= 99) ; order"])

    def test_no_terms_and_names_that_do_not_occur(self):
        found = derivation(*EXAMPLE)
        self.assertEqual(put_in_derivation(found, {}), found)
        self.assertEqual(self.put(found, u="Low(3)"), EXAMPLE)

    def test_derivations_that_are_not_accepted(self):
        self.assertEqual(self.put(derivation("| x = y ; if 9"), y="3"), ["| x = 3 ; if 9"])

    def test_results_that_are_accepted(self):
        for terms in ({"x": "Any"}, {"y": "x"}, {"x": "y", "y": "7"}, {"x": "Two(x, y)", "y": "Up(x) + 3"}):
            self.assertEqual(first_wrong_line(EMPTY, Derivation.read(BOOK, "\n".join(
                self.put(derivation(*EXAMPLE), **terms)))), 0)

    def test_too_large(self):
        found = derivation("(x <= y -> x <= y + 1) ; order")
        for name, text in (("y", "y + 9"), ("y", "99"), ("x", term_text_of_length(500))):
            self.refuses(TooLarge, {}, put_in_derivation, found, {name: read_term(text)})
        found = derivation("0 = 0 ; zero Low(g(x, x))", "0 = 0 ; order")
        self.refuses(TooLarge, {}, put_in_derivation, found, {"x": read_term(term_text_of_length(300))})

    def test_demands_that_become_too_large(self):
        # The terms and the formulas stay small enough: what is too large is the demand of the reason.
        long_one = {"x": read_term(term_text_of_length(310))}
        for reason in ("demand Two(1, x) by x", "least Two(1, x) by x", "zero Two(1, x)"):
            found = derivation(f"0 = 0 ; {reason}", "0 = 0 ; order")
            self.refuses(TooLarge, {}, put_in_derivation, found, long_one)
            self.assertEqual(len(put_in_derivation(found, {"x": read_term(term_text_of_length(150))})), 2)

    def test_demands_that_are_too_large_without_terms(self):
        wide = term_text_of_length(310)
        found = derivation(f"0 = 0 ; zero Two(1, {wide})", "0 = 0 ; order")
        self.refuses(TooLarge, {}, put_in_derivation, found, {})

    def test_errors_in_their_order(self):
        fact = derivation("x = x ; order", "x = y ; fact low", "x = y ; fact other")
        plain = derivation("x = y ; order", "y + 9 = y ; order")
        letter = read_term("g(h(x), y1)")
        unfit = read_term("h(x)")
        self.refuses(HasFact, {"line": 2}, put_in_derivation, fact, {"X": letter})
        self.refuses(HasFact, {"line": 2}, put_in_derivation, fact, {})
        self.refuses(BadWord, {"word": "X"}, put_in_derivation, plain, {"x": letter, "X": unfit, "not": unfit})
        self.refuses(BadWord, {"word": "y1"}, put_in_derivation, plain, {"y1": unfit})
        self.refuses(HasLetters, {"letter": "y1"}, put_in_derivation, plain, {"u": unfit, "x": letter})
        self.refuses(Unfit, {"name": "h"}, put_in_derivation, plain, {"y": read_term("y + 1"), "u": unfit,
                                                                       "x": read_term("k(x)")})
        self.refuses(Unfit, {"name": "Low"}, put_in_derivation, plain, {"u": read_term("Low")})
        self.refuses(TooLarge, {}, put_in_derivation, plain, {"y": read_term("y + 1")})

    def test_the_dict_is_not_changed(self):
        terms = {"x": read_term("3")}
        found = derivation("x = x ; order")
        put_in_derivation(found, terms)
        self.assertEqual((list(terms), found.text), (["x"], "x = x ; order"))


class OtherReasonsTest(LineTest):

    def test_a_formula_that_another_reason_grants(self):
        formula = "(f(f(3)) <= x -> f(Low(x)) <= x)"
        self.right(f"{formula} ; demand Low(x) by f(3)")
        for reason in ("order", "follows", "least Low(x) by f(3)", "zero Low(x)", "fact low", "if 1", "among 1"):
            self.last_wrong(f"{formula} ; {reason}")


if __name__ == "__main__":
    unittest.main()

"""Points 54 and 55: telling a formula in a book that may grow."""

import random
import unittest

from support import PackageTest, joined

from rightatlast.books import Book
from rightatlast.errors import HasLetters, RightatlastError, TooDeep, TooLarge, TooWide, Unfit
from rightatlast.formulatext import read_formula
from rightatlast.putting import put_names
from rightatlast.telling import Told, tell_formula
from rightatlast.termtext import read_term

BOOK = Book.read("fun f 1\nfun g 2\nrel R 2\nrel S 1")
ROWS = BOOK.text.split("\n")
SIGNS = "abcdefghijklmnopqrstuvwxyz"
NAMES = [f"{first}{second}" for first in "CD" for second in SIGNS]


class TellingTest(PackageTest):

    def tells(self, text, told, rows, book=BOOK):
        """The formula of a text is told in this way, in the book with these further rows."""
        formula = read_formula(text)
        before = book.text
        result = tell_formula(book, formula)
        self.assertIsInstance(result, Told)
        self.assertEqual(result.formula.text, told)
        self.assertFalse(result.formula.quantified)
        self.assertEqual(result.book.text.split("\n"), before.split("\n") + rows)
        self.assertEqual((formula.text, book.text), (read_formula(text).text, before))
        self.assertEqual(Book.read(result.book.text), result.book)
        # In the book that it left, it is told in the same way once more.
        again = tell_formula(result.book, formula)
        self.assertEqual((again.formula, again.book), (result.formula, result.book))
        return result.book

    def test_the_examples_of_the_point(self):
        book = Book.read("rel R 2")
        self.tells("every x1: some x2: R(x1, x2)", "R(Cb, Ca(Cb))", ["pick Ca 1: R(p1, y0)", "pick Cb 0: not R(y0, Ca(y0))"],
                   book)
        self.tells("some y1: f(y1) <= f(x)", "f(Ca(f(x))) <= f(x)", ["pick Ca 1: f(y0) <= p1"])

    def test_formulas_without_quantifiers(self):
        for text in ("R(x, f(3))", "not (S(x) or x = 3)", "f(x) + 2 <= y"):
            self.tells(text, text, [])
        upper = Book.read("\n".join(ROWS + ["pick Ca 1: S(y0)", "pick Cb 0: y0 = Ca(3)"]))
        self.tells("R(Ca(Cb), Cb)", "R(Ca(Cb), Cb)", [], upper)

    def test_one_quantifier(self):
        self.tells("some y1: S(y1)", "S(Ca)", ["pick Ca 0: S(y0)"])
        self.tells("every y1: S(y1)", "S(Ca)", ["pick Ca 0: not S(y0)"])
        self.tells("every y1: not S(y1)", "not S(Ca)", ["pick Ca 0: not not S(y0)"])
        self.tells("some p1: R(p1, x)", "R(Ca(x), x)", ["pick Ca 1: R(y0, p1)"])
        self.tells("some y0: (R(y0, z) and R(z, y0 + 1))", "(R(Ca(z, z), z) and R(z, Ca(z, z) + 1))",
                   ["pick Ca 2: (R(y0, p1) and R(p2, y0 + 1))"])
        self.tells("some y1: g(f(y1), 17) = g(x, z) + 2", "g(f(Ca(17, g(x, z) + 2)), 17) = g(x, z) + 2",
                   ["pick Ca 2: g(f(y0), p1) = p2"])

    def test_parts_from_left_to_right(self):
        self.tells("(some y1: S(y1) -> (every y1: S(y1) or not some y2: R(y2, x)))", "(S(Ca) -> (S(Cb) or not R(Cc(x), x)))",
                   ["pick Ca 0: S(y0)", "pick Cb 0: not S(y0)", "pick Cc 1: R(y0, p1)"])
        self.tells("(every y1: S(y1) and some y1: S(y1))", "(S(Ca) and S(Cb))", ["pick Ca 0: not S(y0)", "pick Cb 0: S(y0)"])

    def test_equal_parts_are_told_in_the_same_way(self):
        self.tells("(some y1: S(y1) and (some y2: S(y2) or some y1: S(y1)))", "(S(Ca) and (S(Ca) or S(Ca)))",
                   ["pick Ca 0: S(y0)"])
        self.tells("(some y1: R(x, y1) and some y1: R(f(3), y1))", "(R(x, Ca(x)) and R(f(3), Ca(f(3))))",
                   ["pick Ca 1: R(p1, y0)"])

    def test_quantifiers_within_quantifiers(self):
        # What is within is told before: the holes may have the letters of quantifiers further out.
        self.tells("some y1: (S(y1) and every y2: R(f(y1), y2))",
                   "(S(Cb) and R(f(Cb), Ca(f(Cb))))",
                   ["pick Ca 1: not R(p1, y0)", "pick Cb 0: (S(y0) and R(f(y0), Ca(f(y0))))"])
        self.tells("some y1: (some y2: R(x, y2) and S(y1))", "(R(x, Ca(x)) and S(Cb(x, Ca(x))))",
                   ["pick Ca 1: R(p1, y0)", "pick Cb 2: (R(p1, p2) and S(y0))"])
        self.tells("every y1: (every y2: R(y1, y2) -> some y3: R(y3, y1))", "(R(Cc, Ca(Cc)) -> R(Cb(Cc), Cc))",
                   ["pick Ca 1: not R(p1, y0)", "pick Cb 1: R(y0, p1)", "pick Cc 0: not (R(y0, Ca(y0)) -> R(Cb(y0), y0))"])

    def test_three_storeys(self):
        text = "some y1: every y2: some y3: (R(y1, y2) and R(y2, y3))"
        self.refuses(TooDeep, {}, tell_formula, BOOK, read_formula(text))
        # An upper choice in a hole is not in the body.
        self.tells("some y3: (every y1: some y2: R(y1, y2) and S(y3))", "(R(Cb, Ca(Cb)) and S(Cc(Cb, Ca(Cb))))",
                   ["pick Ca 1: R(p1, y0)", "pick Cb 0: not R(y0, Ca(y0))", "pick Cc 2: (R(p1, p2) and S(y0))"])

    def test_choices_that_are_used_again(self):
        book = Book.read("\n".join(ROWS + ["pick Low 1: f(y0) <= p1", "pick Lowest 1: f(y0) <= p1", "pick Not 0: not S(y0)"]))
        self.tells("some y1: f(y1) <= f(x)", "f(Low(f(x))) <= f(x)", [], book)
        self.tells("(every y3: S(y3) or some y1: f(y1) <= 3)", "(S(Not) or f(Low(3)) <= 3)", [], book)
        # Another body, another form of it, or another count.
        self.tells("some y1: f(y1) <= y1", "f(Ca) <= Ca", ["pick Ca 0: f(y0) <= y0"], book)
        self.tells("some y1: not f(y1) <= 3", "not f(Ca(3)) <= 3", ["pick Ca 1: not f(y0) <= p1"], book)
        self.tells("every y1: f(y1) <= 3", "f(Ca(3)) <= 3", ["pick Ca 1: not f(y0) <= p1"], book)
        self.tells("some y1: not S(y1)", "not S(Not)", [], book)
        wide = Book.read("\n".join(ROWS + ["pick Wide 3: f(y0) <= p1", "pick Last 2: f(y0) <= p2"]))
        self.tells("some y1: f(y1) <= 3", "f(Ca(3)) <= 3", ["pick Ca 1: f(y0) <= p1"], wide)

    def test_upper_choices_that_are_used_again(self):
        rows = ["pick Any 1: R(p1, y0)", "pick Up 0: not R(y0, Any(y0))", "pick Same 0: not R(y0, Any(y0))"]
        book = Book.read("\n".join(ROWS + rows))
        self.tells("every x1: some x2: R(x1, x2)", "R(Up, Any(Up))", [], book)
        self.tells("some x1: R(x1, Any(x1))", "R(Ca, Any(Ca))", ["pick Ca 0: R(y0, Any(y0))"], book)
        # Up stands in a hole here, and not in a hole there.
        self.tells("some x1: R(x1, Up)", "R(Ca(Up), Up)", ["pick Ca 1: R(y0, p1)"], book)
        more = Book.read("\n".join(ROWS + ["pick Any 1: R(p1, y0)", "pick Up 1: not R(y0, Any(p1))"]))
        self.refuses(TooDeep, {}, tell_formula, more, read_formula("some x1: R(3, Up(x1))"))

    def test_the_first_free_name(self):
        taken = Book.read("\n".join(ROWS + ["pick Ca 1: S(y0)", "pick Cc 2: S(y0)", "pick Low 3: S(y0)"]))
        book = self.tells("some y1: S(y1)", "S(Cb)", ["pick Cb 0: S(y0)"], taken)
        self.tells("every y1: S(y1)", "S(Cd)", ["pick Cd 0: not S(y0)"], book)
        rows = [f"pick {name} 6: S(p{place % 6 + 1})" for place, name in enumerate(NAMES[:26])]
        full = Book.read("\n".join(ROWS + rows))
        self.tells("some y1: S(y1)", "S(Da)", ["pick Da 0: S(y0)"], full)
        self.tells("some y1: S(y1)", "S(Cz)", ["pick Cz 0: S(y0)"], Book.read("\n".join(ROWS + rows[:25])))

    def test_free_letters_of_holes_do_not_mix_with_parameters(self):
        first = "Cb(x, x, x)"
        second = f"Ca({first}, x)"
        self.tells("some p1: some p2: (R(p1, p2) and R(p2, x))", f"(R({first}, {second}) and R({second}, x))",
                   ["pick Ca 2: (R(p1, y0) and R(y0, p2))", "pick Cb 3: (R(y0, Ca(y0, p1)) and R(Ca(y0, p2), p3))"])
        self.tells("some p1: some p2: R(p1, p2)", "R(Cb, Ca(Cb))", ["pick Ca 1: R(p1, y0)", "pick Cb 0: R(y0, Ca(y0))"])
        self.tells("some p2: (some y0: R(y0, p2) and R(p2, 5))", "(R(Ca(Cb(5)), Cb(5)) and R(Cb(5), 5))",
                   ["pick Ca 1: R(y0, p1)", "pick Cb 1: (R(Ca(y0), y0) and R(y0, p1))"])


class ErrorsTest(PackageTest):

    def refused(self, kind, text, book=BOOK):
        """Telling the formula of a text raises an error."""
        self.refuses(kind, {}, tell_formula, book, read_formula(text))

    def test_letters_and_words_that_do_not_fit(self):
        self.refuses(HasLetters, {"letter": "y2"}, tell_formula, BOOK, read_formula("some y1: T(y1, y2)"))
        self.refuses(HasLetters, {"letter": "y3"}, tell_formula, BOOK, read_formula("(R(y3, y2) and some y1: T(y1))"))
        self.refuses(Unfit, {"name": "T"}, tell_formula, BOOK, read_formula("some y1: (T(y1) and h(y1) = 3)"))
        self.refuses(Unfit, {"name": "R"}, tell_formula, BOOK, read_formula("(some y1: R(y1) or every y1: T(y1))"))
        self.refuses(Unfit, {"name": "Ca"}, tell_formula, BOOK, read_formula("some y1: S(Ca(y1))"))
        # Unfit comes before all that is found while it works.
        self.refuses(Unfit, {"name": "T"}, tell_formula, BOOK, read_formula(
            "(some y1: ((R(a, y1) or R(b, y1)) or ((R(c, y1) or R(d, y1)) or ((R(e, y1) or R(a, y1)) or S(b)))) or T(a))"))

    def test_6_and_7_holes(self):
        six = "g(g(g(a, y1), g(b, y1)), g(g(c, y1), g(d, y1))) = g(g(e, y1), g(h, y1))"
        book = tell_formula(BOOK, read_formula(f"some y1: {six}")).book
        self.assertEqual(book.choices[0].count, 6)
        seven = six.replace("h,", "g(h, g(y1, h)),")
        self.refused(TooWide, f"some y1: {seven}")

    def test_5_and_6_atoms(self):
        def atoms(count):
            """A formula with this many different atoms."""
            return joined([read_formula(f"S(y1 + {number})") for number in range(1, count + 1)]).text

        self.assertEqual(len(tell_formula(BOOK, read_formula(f"some y1: {atoms(5)}")).book.choices), 1)
        self.refused(TooWide, f"some y1: {atoms(6)}")
        # What counts is the shape: atoms that differ by their holes alone are different there, too.
        many = joined([read_formula(f"R(y1, {name})") for name in "aaaaaa"]).text
        self.refused(TooWide, f"some y1: {many}")
        self.assertEqual(len(tell_formula(BOOK, read_formula(f"some y1: ({atoms(5)} -> {atoms(5)})")).book.choices), 1)

    def test_bodies_of_size_40_and_41(self):
        def body(size):
            """A formula of this size with two different atoms, without holes."""
            text = "S(y1)"
            formula = read_formula(text)
            while formula.size < size - 2:
                formula = formula & read_formula(text)
            while formula.size < size:
                formula = ~formula
            self.assertEqual(formula.size, size)
            return formula.text

        self.assertEqual(tell_formula(BOOK, read_formula(f"some y1: {body(40)}")).book.choices[0].body.size, 40)
        self.assertEqual(tell_formula(BOOK, read_formula(f"every y1: {body(39)}")).book.choices[0].body.size, 40)
        self.refused(TooLarge, f"some y1: {body(41)}")
        self.refused(TooLarge, f"every y1: {body(40)}")
        # What is within holes does not count.
        large = "f(" * 14 + "x" + ")" * 14
        text = f"some y1: (R({large}, y1) and R(y1, g({large}, {large})))"
        self.assertGreater(read_formula(text).size, 45)
        self.assertEqual(tell_formula(BOOK, read_formula(text)).book.choices[0].body.text, "(R(p1, y0) and R(y0, p2))")

    def test_books_of_40_rows(self):
        rows = [f"pick {name} 6: S(p{place % 6 + 1})" for place, name in enumerate(NAMES[:35])]
        book = Book.read("\n".join(ROWS + rows + ["pick Some 0: S(y0)"]))
        self.assertEqual(tell_formula(book, read_formula("some y1: S(y1)")).formula.text, "S(Some)")
        self.refused(TooLarge, "every y1: S(y1)", book)
        book = Book.read("\n".join(ROWS + rows))
        told = tell_formula(book, read_formula("every y1: S(y1)"))
        self.assertEqual((told.formula.text, len(told.book.text.split("\n"))), ("S(Dj)", 40))
        self.refused(TooLarge, "(every y1: S(y1) and some y1: S(y1))", book)

    def test_a_told_formula_that_is_too_large(self):
        def text(hole):
            """A formula whose told form has a hole at 18 places."""
            return "some y1: " + joined([read_formula(f"R({hole}, y1)")] + [read_formula("R(y1, y1)")] * 8).text

        hole = "f(f(f(f(f(f(abcdefg))))))"
        self.assertEqual(len(tell_formula(BOOK, read_formula(text(hole))).formula.text), 25 + 17 * 29 + 9 * 5 + 8 * 7)
        self.refused(TooLarge, f"({text(hole)} and {text(hole)})")
        self.refused(TooLarge, text(f"g(abcdefgh, g({hole}, g(abcdefgh, abcdefgh)))"))
        # A term that is put for a letter may become too large, too.
        deep = "f(" * 17 + "x" + ")" * 17
        self.assertEqual(tell_formula(BOOK, read_formula(f"some y1: S(g({deep}, y1))")).formula.terms[0].depth, 20)
        self.refused(TooLarge, f"some y1: S(f(g({deep}, y1)))")
        self.refused(TooLarge, f"some y1: S(g(f({deep}), y1))")

    def test_sums_that_are_put_together(self):
        book = Book.read("\n".join(ROWS))
        told = tell_formula(book, read_formula("some y1: S(y1 + 9)"))
        self.assertEqual(told.formula.text, "S(Ca + 9)")


class OrderOfErrorsTest(PackageTest):
    """For one quantifier: holes, shape, atoms, TooDeep, body, book, told formula."""

    upper = ["pick Any 1: R(p1, y0)", "pick Up 1: not R(y0, Any(p1))"]
    book = Book.read("\n".join(ROWS + upper))

    def refused(self, kind, text, book):
        """Telling the formula of a text raises an error."""
        self.refuses(kind, {}, tell_formula, book, read_formula(text))

    def test_too_deep_comes_behind_too_wide(self):
        seven = "g(g(g(a, y1), g(b, y1)), g(g(c, y1), g(d, y1))) = g(g(e, y1), g(g(a, y1), g(b, y1)))"
        self.refused(TooWide, f"some y1: (S(Up(y1)) and {seven})", self.book)
        six = " and ".join(["(S(y1)", "(S(y1 + 1)", "(S(y1 + 2)", "(S(y1 + 3)", "(S(y1 + 4)", "S(Up(y1)))))))"])
        self.refused(TooWide, f"some y1: {six}", self.book)
        five = " and ".join(["(S(y1)", "(S(y1 + 1)", "(S(y1 + 2)", "(S(y1 + 3)", "S(Up(y1))))))"])
        self.refused(TooDeep, f"some y1: {five}", self.book)

    def test_too_deep_comes_before_a_body_that_is_too_large(self):
        many = joined([read_formula("S(Up(y1))")] * 12).text
        self.refused(TooDeep, f"some y1: {many}", self.book)
        self.refused(TooDeep, f"every y1: {many}", self.book)
        # The told part has the size 299 or 300, so that the body of `every` may not even be a formula.
        atoms = ["R(" + "f(" * 13 + "y1" + ")" * 13 + ", y2)"] + ["R(y2, y2)"] * 8
        inner = "some y2: " + joined([read_formula(atom) for atom in atoms]).text
        for count in (9, 10):
            for sign in ("every", "some"):
                text = f"{sign} y1: ({'not ' * count}{inner} and S(Up(y1)))"
                self.refused(TooDeep, text, self.book)
                self.refused(TooLarge, text.replace("Up", "Any"), self.book)

    def test_too_deep_comes_before_a_full_book(self):
        rows = [f"pick {name} 6: S(p{place % 6 + 1})" for place, name in enumerate(NAMES[:34])]
        full = Book.read("\n".join(ROWS + self.upper + rows))
        self.refused(TooDeep, "some y1: S(Up(y1))", full)
        self.refused(TooLarge, "some y1: S(Any(y1))", full)

    def test_a_shape_that_is_too_large_comes_before_its_atoms(self):
        book = Book.read("rel R 2\n" + "\n".join(f"rel {'A' * count} 2" for count in range(1, 9)))
        self.refused(TooLarge, self.with_a_shape_of_length(1001, "abcdex"), book)
        self.refused(TooWide, self.with_a_shape_of_length(1000, "abcdex"), book)
        # The holes come before the shape.
        self.refused(TooWide, self.with_a_shape_of_length(990, "abcdexz"), book)

    def with_a_shape_of_length(self, length, holes):
        """A formula with many atoms and these holes, of one character each, whose shape is that long if they are 6.

        Its last part is told as a text that is 27 characters longer.
        """
        last = "some y2: " + joined([read_formula(one) for one in ["R(y2, y2)"] * 4 + ["R(y2, y1)"]]).text
        length -= len(last) + 27 + 7 + 6 + 83
        names = ["A" * 8] * -(-length // 23)
        surplus = 23 * len(names) - length
        for place in range(len(names)):
            cut = min(7, surplus)
            names[place] = names[place][cut:]
            surplus -= cut
        atoms = [f"R({name}, y1)" for name in holes] + [f"{name}(y1, y1)" for name in names]
        return f"some y1: ({joined([read_formula(atom) for atom in atoms]).text} and {last})"

    def test_parts_come_before_the_whole(self):
        self.refused(TooDeep, "some y3: (some y1: S(Up(y1)) and R(g(g(a, b), y3), y3))", self.book)
        seven = "g(g(g(a, y1), g(b, y1)), g(g(c, y1), g(d, y1))) = g(g(e, y1), g(g(a, y1), g(b, y1)))"
        self.refused(TooWide, f"(some y1: {seven} and some y1: S(Up(y1)))", self.book)
        self.refused(TooDeep, f"(some y1: S(Up(y1)) and some y1: {seven})", self.book)


class BothOrdersTest(PackageTest):
    """Point 55."""

    def some_formula(self, source, depth, letters):
        """A random formula with these letters."""
        def term(deep):
            """A random term."""
            kind = source.randrange(6)
            if kind < 2 or deep == 0:
                return source.choice(list(letters) * 2 + ["x", "z", "u", "3"])
            if kind == 2:
                return f"f({term(deep - 1)})"
            if kind == 3:
                return f"g({term(deep - 1)}, {term(deep - 1)})"
            return source.choice(letters + ["x", "z"]) + f" + {source.randrange(1, 5)}"

        kind = source.randrange(8)
        if kind < 2 or depth == 0:
            return source.choice([f"R({term(2)}, {term(1)})", f"S({term(2)})", f"{term(1)} <= {term(2)}"])
        if kind == 2:
            return f"not {self.some_formula(source, depth - 1, letters)}"
        if kind < 5:
            sign = source.choice(["and", "or", "->"])
            left = self.some_formula(source, depth - 1, letters)
            return f"({left} {sign} {self.some_formula(source, depth - 1, letters)})"
        letter = f"y{source.randrange(3)}"
        if letter in letters:
            return self.some_formula(source, depth - 1, letters)
        part = self.some_formula(source, depth - 1, letters + [letter])
        return f"{source.choice(['some', 'every'])} {letter}: {part}"

    def test_both_orders(self):
        source = random.Random(55)
        told = 0
        terms = {"x": read_term("g(z, 7)"), "z": read_term("f(u) + 3"), "u": read_term("5")}
        for _ in range(1500):
            try:
                formula = read_formula(self.some_formula(source, 4, []))
                first = tell_formula(BOOK, formula)
                after = put_names(first.formula, terms)
                second = tell_formula(BOOK, put_names(formula, terms))
            except RightatlastError:
                continue
            self.assertEqual((after, first.book), (second.formula, second.book))
            told += formula.quantified and len(formula.names) > 0
        self.assertGreater(told, 100)

    def test_holes_that_become_equal_or_numbers(self):
        formula = read_formula("(some y1: R(x, y1) and some y1: R(z + 2, y1))")
        terms = {"x": read_term("5"), "z": read_term("3")}
        after = put_names(tell_formula(BOOK, formula).formula, terms)
        self.assertEqual(after.text, "(R(5, Ca(5)) and R(5, Ca(5)))")
        self.assertEqual(tell_formula(BOOK, put_names(formula, terms)).formula, after)


if __name__ == "__main__":
    unittest.main()

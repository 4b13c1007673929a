"""Point 61: candidates and demands of a claim of relations."""

import unittest

from support import PackageTest, joined

from rightatlast.books import Book
from rightatlast.candidates import candidates_of, demands_for
from rightatlast.errors import HasChoices, NotRelational, TooLarge, TooWide, Unfit
from rightatlast.formulatext import read_formula
from rightatlast.terms import Term

BOOK = Book.read("fun f 1\nrel R 1\nrel S 2\nrel T 2")


class CandidatesTest(PackageTest):

    def has(self, text, candidates, demands):
        """The claim of a text has these candidates and demands."""
        claim = read_formula(text)
        found = candidates_of(BOOK, claim)
        self.assertIsInstance(found, tuple)
        self.assertTrue(all(isinstance(term, Term) for term in found))
        self.assertEqual([term.text for term in found], candidates)
        told = demands_for(BOOK, claim)
        self.assertIsInstance(told, tuple)
        self.assertEqual(list(told), demands)
        self.assertEqual(BOOK.text, "fun f 1\nrel R 1\nrel S 2\nrel T 2")

    def test_names_alone(self):
        self.has("R(x)", ["x"], [])
        self.has("(S(z, a) or not S(a, m))", ["z", "a", "m"], [])

    def test_choice_terms_alone(self):
        self.has("some y1: R(y1)", ["Ca"], [])
        self.has("(every y1: R(y1) -> some y1: R(y1))", ["Ca", "Cb"], ["Ca by Cb", "Cb by Ca"])

    def test_names_in_the_order_of_the_text_and_then_choice_terms(self):
        self.has("(some y1: S(y1, z) or (R(a) and every y1: S(z, y1)))", ["z", "a", "Ca(z)", "Cb(z)"],
                 ["Ca(z) by z", "Ca(z) by a", "Ca(z) by Cb(z)", "Cb(z) by z", "Cb(z) by a", "Cb(z) by Ca(z)"])

    def test_the_order_of_the_list(self):
        self.has("(some y1: S(y1, z) or (some y1: S(y1, a) or some y1: S(y1, z)))", ["z", "a", "Ca(z)", "Ca(a)"],
                 ["Ca(z) by z", "Ca(z) by a", "Ca(z) by Ca(a)", "Ca(a) by z", "Ca(a) by a", "Ca(a) by Ca(z)"])
        self.has("some y1: (S(a, y1) and (S(y1, b) or T(b, a)))", ["a", "b", "Ca(a, b, b, a)"],
                 ["Ca(a, b, b, a) by a", "Ca(a, b, b, a) by b"])

    def test_10_and_11_candidates(self):
        names = "abcdefghij"
        claim = joined([read_formula(f"R({name})") for name in names])
        self.assertEqual(len(candidates_of(BOOK, claim)), 10)
        self.refuses(TooWide, {}, candidates_of, BOOK, claim & read_formula("R(k)"))
        self.refuses(TooWide, {}, demands_for, BOOK, claim & read_formula("R(k)"))
        self.refuses(TooWide, {}, candidates_of, BOOK, claim & read_formula("some y1: R(y1)"))
        nine = joined([read_formula(f"R({name})") for name in names[:9]]) & read_formula("some y1: R(y1)")
        self.assertEqual(len(candidates_of(BOOK, nine)), 10)
        self.assertEqual(list(demands_for(BOOK, nine)), [f"Ca by {name}" for name in names[:9]])

    def test_choice_terms_count_each_once(self):
        claim = joined([read_formula(f"some y1: S(y1, {name})") for name in "abcdeabcde"])
        self.assertEqual(len(candidates_of(BOOK, claim)), 10)
        self.assertEqual(len(demands_for(BOOK, claim)), 45)

    def test_long_demands(self):
        # A text of a demand may be too large for a demand: this is not examined here.
        names = [f"abcdefg{sign}" for sign in "hijklm"]
        claim = read_formula(f"some y1: ((S(y1, {names[0]}) or S(y1, {names[1]})) and (S(y1, {names[2]}) or S(y1, {names[3]})))")
        self.assertEqual(demands_for(BOOK, claim)[0], f"Ca({', '.join(names[:4])}) by {names[0]}")


class ErrorsTest(PackageTest):

    def refused(self, kind, fields, book, text):
        """Both functions refuse a claim."""
        claim = read_formula(text)
        self.refuses(kind, fields, candidates_of, book, claim)
        self.refuses(kind, fields, demands_for, book, claim)

    def test_the_order_of_the_errors(self):
        with_choices = Book.read(BOOK.text + "\npick Any 0: R(y0)")
        self.refused(HasChoices, {}, with_choices, "(U(y1) or f(x) = 3)")
        self.refused(NotRelational, {}, BOOK, "(U(x) or f(x) = 3)")
        self.refused(NotRelational, {}, BOOK, "U(y1)")
        self.refused(NotRelational, {}, BOOK, "some y1: every y2: U(y1, y2)")
        seven = "((S(y1, a) or S(y1, b)) or ((S(y1, c) or S(y1, d)) or ((S(y1, e) or S(y1, g)) or T(y1, a))))"
        self.refused(Unfit, {"name": "U"}, BOOK, f"(some y1: {seven} or U(a))")

    def test_what_cannot_be_told(self):
        seven = "((S(y1, a) or S(y1, b)) or ((S(y1, c) or S(y1, d)) or ((S(y1, e) or S(y1, g)) or T(y1, a))))"
        self.refused(TooWide, {}, BOOK, f"some y1: {seven}")
        six_atoms = "((S(y1, a) or S(y1, b)) or ((S(y1, c) or S(y1, d)) or (S(y1, e) or S(y1, y1))))"
        self.refused(TooWide, {}, BOOK, f"some y1: {six_atoms}")
        large = joined([read_formula("S(y1, y1)")] * 11).text
        self.refused(TooLarge, {}, BOOK, f"some y1: {large}")
        # A body that is too large comes before too many candidates, and these before nothing else.
        many = joined([read_formula(f"R({name})") for name in "abcdefghijk"]).text
        self.refused(TooLarge, {}, BOOK, f"(some y1: {large} or {many})")


if __name__ == "__main__":
    unittest.main()

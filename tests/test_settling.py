"""Point 62: settling claims of relations."""

import itertools
import random
import unittest

from support import PackageTest, joined

from rightatlast.books import Book
from rightatlast.candidates import candidates_of, demands_for
from rightatlast.checker import first_wrong_line
from rightatlast.demands import Demand
from rightatlast.derivations import Derivation
from rightatlast.errors import HasChoices, NotRelational, RightatlastError, TooLarge, TooWide, Unfit
from rightatlast.follows import entails
from rightatlast.formulatext import read_formula
from rightatlast.library import Library
from rightatlast.pieces import atoms_of
from rightatlast.relations import holds_in
from rightatlast.runs import run
from rightatlast.settling import Settled, settle
from rightatlast.telling import tell_formula
from rightatlast.worlds import World

BOOK = Book.read("fun f 1\nrel R 1\nrel S 2\nfun g 2\nrel T 1")


class SettlingTest(PackageTest):

    def settles(self, text, book=BOOK):
        """The claim of a text is settled; tells whether it holds."""
        claim = read_formula(text)
        before = book.text
        result = settle(book, claim)
        self.assertIsInstance(result, Settled)
        self.assertEqual((claim.text, book.text), (read_formula(text).text, before))
        told = tell_formula(book, claim)
        if result.derivation is not None:
            self.assertIsNone(result.world)
            self.assertIsNone(result.inputs)
            self.is_derived(book, claim, told, result.derivation)
            return True
        names = sorted(claim.names)
        self.assertIsInstance(result.world, World)
        self.assertIsInstance(result.inputs, tuple)
        self.assertEqual([name for name, _ in result.inputs], names)
        self.assertEqual(result.world.book, book)
        self.assertEqual(World.read(book, result.world.text), result.world)
        self.assertIs(holds_in(result.world, dict(result.inputs), claim), False)
        self.assertLessEqual(result.world.top, len(candidates_of(book, claim)) - 1)
        return False

    def is_derived(self, book, claim, told, found):
        """A derivation shows the told claim from demands of the claim alone."""
        self.assertIsInstance(found, Derivation)
        self.assertEqual((found.book, found.claim), (told.book, told.formula))
        self.assertEqual(first_wrong_line(Library(told.book), found), 0)
        demands = demands_for(book, claim)
        used = [line.text.partition("; demand ")[2] for line in found if line.reason == "demand"]
        self.assertLessEqual(set(used), set(demands))
        self.assertLessEqual(len(used), 56)
        self.assertNotIn("fact", [line.reason for line in found])
        self.assertEqual(Derivation.read(Book.read(found.book.text), found.text), found)

    def test_claims_that_hold(self):
        for text in ("(R(x) or not R(x))", "(every y1: R(y1) -> some y1: R(y1))", "(every y1: R(y1) -> R(x))",
                     "(S(x, z) -> some y1: S(x, y1))", "some y1: (R(y1) -> R(x))",
                     "(every y1: (R(y1) -> T(y1)) -> (R(x) -> T(x)))", "(not every y1: R(y1) -> some y1: not R(y1))",
                     "(not some y1: R(y1) -> every y1: not R(y1))", "(some y1: (R(y1) or T(y1)) -> (some y1: R(y1) or some y1: T(y1)))",
                     "(every y1: S(x, y1) -> some y1: S(y1, z))",
                     "((every y1: R(y1) and every y1: T(y1)) -> every y1: (R(y1) and T(y1)))"):
            self.assertTrue(self.settles(text), text)

    def test_claims_that_do_not_hold(self):
        for text in ("R(x)", "not R(x)", "(R(x) -> R(z))", "(some y1: R(y1) -> every y1: R(y1))", "some y1: R(y1)",
                     "(R(x) -> every y1: R(y1))", "every y1: S(y1, y1)", "(S(x, z) -> S(z, x))",
                     "((some y1: R(y1) and some y1: T(y1)) -> some y1: (R(y1) and T(y1)))",
                     "(every y1: S(y1, x) -> every y2: S(x, y2))"):
            self.assertFalse(self.settles(text), text)

    def test_names_in_another_order(self):
        self.assertFalse(self.settles("(S(z, a) -> (S(a, m) or R(z)))"))
        result = settle(BOOK, read_formula("(S(z, a) -> (S(a, m) or R(z)))"))
        self.assertEqual([name for name, _ in result.inputs], ["a", "m", "z"])

    def test_books_without_functions(self):
        book = Book.read("rel R 1")
        self.assertTrue(self.settles("(every y1: R(y1) -> R(x))", book))
        self.assertFalse(self.settles("(R(x) -> every y1: R(y1))", book))

    def test_a_derivation_can_be_run(self):
        claim = read_formula("(every y1: R(y1) -> (R(x) and some y1: R(y1)))")
        found = settle(BOOK, claim).derivation
        source = random.Random(62)
        for _ in range(20):
            rows = ["top 2", "f 0 1 2", "R " + " ".join(source.choice("01") for _ in range(3)), "S" + " 1" * 9, "g" + " 0" * 9,
                    "T 0 0 0"]
            world = World.read(found.book, "\n".join(rows))
            self.assertIs(run(Library(found.book), found, world, {"x": source.randrange(4)}).truth, True)

    def test_8_and_9_atoms(self):
        eight = joined([read_formula(f"S({first}, {second})") for first, second in ("aa", "ab", "ac", "bb", "ba", "bc", "ca", "cb")])
        self.assertFalse(self.settles(eight.text))
        self.assertTrue(self.settles(f"({eight.text} -> {eight.text})"))
        self.refuses(TooWide, {}, settle, BOOK, eight & read_formula("S(c, c)"))
        # The atoms of the demands count, too: of R(Ca), R(a) and so on.
        seven = joined([read_formula(f"R({name})") for name in "abcdefg"])
        self.assertTrue(self.settles(f"({seven.text} -> some y1: R(y1))"))
        self.refuses(TooWide, {}, settle, BOOK, seven >> read_formula("(R(h) -> some y1: R(y1))"))
        # T(a), T(b) and so on are in the demands alone.
        self.assertFalse(self.settles("((R(a) and (R(b) and R(c))) -> some y1: T(y1))"))
        self.refuses(TooWide, {}, settle, BOOK, read_formula("((R(a) and (R(b) and (R(c) and R(d)))) -> some y1: T(y1))"))

    def test_a_claim_that_needs_many_cases(self):
        # Whether an odd number of 8 atoms is true: each of them decides.
        def odd(texts):
            """A formula that says that an odd number of these is true."""
            if len(texts) == 1:
                return texts[0]
            half = len(texts) // 2
            left, right = odd(texts[:half]), odd(texts[half:])
            return f"(({left} or {right}) and not ({left} and {right}))"

        four = odd([f"R({name})" for name in "abcd"])
        again = odd([f"R({name})" for name in "dcba"])
        self.assertTrue(self.settles(f"({four} -> {again})"))
        found = settle(BOOK, read_formula(f"({four} -> {again})")).derivation
        self.assertLessEqual(len(found), 61)
        pairs = [f"(R({name}) or T({name}))" for name in "abcd"]
        other = [f"(T({name}) or R({name}))" for name in "dcba"]
        self.assertTrue(self.settles(f"({joined([read_formula(one) for one in pairs]).text} -> "
                                     f"{joined([read_formula(one) for one in other]).text})"))

    def test_many_demands_that_are_needed(self):
        names = joined([read_formula(f"R({name})") for name in "abcdefg"]).text
        self.assertTrue(self.settles(f"(every y1: R(y1) -> {names})"))
        found = settle(BOOK, read_formula(f"(every y1: R(y1) -> {names})")).derivation
        self.assertEqual(len([line for line in found if line.reason == "demand"]), 7)

    def test_8_choice_terms_with_56_demands(self):
        # The bodies are R(y0) with 0 to 7 times `not`; each part needs a demand of its own.
        ends = ["some y1: " + "not " * count + "R(y1)" for count in range(8)]
        parts = [f"({ends[count]} -> {ends[(count + 2) % 8]})" for count in range(8)]
        text = joined([read_formula(part) for part in parts]).text
        claim = read_formula(text)
        self.assertEqual((len(candidates_of(BOOK, claim)), len(demands_for(BOOK, claim))), (8, 56))
        self.assertTrue(self.settles(text))
        self.assertLessEqual(len(settle(BOOK, claim).derivation), 1077)
        self.assertFalse(self.settles(f"({text} and ({ends[0]} -> {ends[1]}))"))

    def test_all_small_claims(self):
        # Whether a claim is derived is whether it follows from the demands, and then it holds in all small worlds.
        source = random.Random(61)
        parts = ["R(x)", "R(z)", "some y1: R(y1)", "every y1: R(y1)", "some y1: not R(y1)", "every y1: (R(y1) -> R(x))",
                 "some y1: (R(y1) -> T(y1))", "T(x)", "every y1: T(y1)", "S(x, z)", "some y1: S(x, y1)", "every y1: S(y1, x)"]
        book = Book.read("rel R 1\nrel T 1\nrel S 2")
        worlds = [World.read(book, f"top 1\nR {a} {b}\nT {c} {d}\nS {e} {g} {h} {i}")
                  for a, b, c, d, e, g, h, i in itertools.product("01", repeat=8)]
        settled = []
        while len(settled) < 120:
            one, two, three = [source.choice(["", "not "]) + source.choice(parts) for _ in range(3)]
            text = f"(({one} {source.choice(['and', 'or', '->'])} {two}) {source.choice(['->', 'or', 'and'])} {three})"
            claim = read_formula(text)
            try:
                holds = self.settles(text, book)
            except (TooWide, TooLarge):
                continue
            told = tell_formula(book, claim)
            demands = [Demand.read(told.book, row).formula for row in demands_for(book, claim)]
            self.assertEqual(holds, entails(demands, told.formula))
            if holds:
                for world in worlds:
                    self.assertTrue(holds_in(world, {"x": 0, "z": 1}, claim))
            settled.append(holds)
        self.assertGreater(settled.count(True), 10)
        self.assertGreater(settled.count(False), 10)


class ErrorsTest(PackageTest):

    def refused(self, kind, fields, text, book=BOOK):
        """The claim of a text is refused."""
        self.refuses(kind, fields, settle, book, read_formula(text))

    def test_the_errors_of_candidates(self):
        with_choices = Book.read(BOOK.text + "\npick Any 0: R(y0)")
        self.refused(HasChoices, {}, "(U(y1) or f(x) = 3)", with_choices)
        self.refused(NotRelational, {}, "(U(x) or f(x) = 3)")
        seven = "((S(y1, a) or S(y1, b)) or ((S(y1, c) or S(y1, d)) or ((S(y1, e) or S(y1, g)) or S(y1, a))))"
        self.refused(Unfit, {"name": "U"}, f"(some y1: {seven} or U(a))")
        self.refused(TooWide, {}, f"some y1: {seven}")
        self.refused(TooLarge, {}, f"some y1: {joined([read_formula('S(y1, y1)')] * 11).text}")
        self.refused(TooWide, {}, joined([read_formula(f"R({name})") for name in "abcdefghijk"]).text)

    def test_a_demand_that_is_too_large(self):
        # The told claim has the body once, the demands have it twice. They are examined before the atoms are counted.
        names = [f"abcdefg{sign}" for sign in "hijk"]
        book = Book.read("rel RELATION 2")
        atoms = [f"RELATION({name}, y1)" for name in names] + ["RELATION(y1, y1)"] * 5
        claim = read_formula(f"some y1: {joined([read_formula(atom) for atom in atoms]).text}")
        told = tell_formula(book, claim)
        self.assertEqual(len(candidates_of(book, claim)), 5)
        self.refuses(TooLarge, {}, Demand.read, told.book, demands_for(book, claim)[0])
        # The tests alone have an atom for each two of the names.
        self.assertEqual(len(atoms_of([told.formula])), 5)
        self.refuses(TooLarge, {}, settle, book, claim)

    def test_no_other_error(self):
        source = random.Random(7)
        for _ in range(100):
            names = [source.choice("abc") for _ in range(4)]
            text = (f"({source.choice(['some', 'every'])} y1: (S(y1, {names[0]}) -> S({names[1]}, y1)) or "
                    f"{source.choice(['some', 'every'])} y2: (R(y2) and S(y2, {names[2]})))")
            try:
                settle(BOOK, read_formula(text))
            except RightatlastError as error:
                self.assertIn(type(error), (TooLarge, TooWide))


if __name__ == "__main__":
    unittest.main()

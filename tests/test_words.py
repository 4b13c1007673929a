"""Point 4 and step 2 of point 8: words and tokens."""

import unittest

from support import PackageTest

from rightatlast.errors import BadText, TooLarge
from rightatlast.words import is_choice, is_letter, is_name, is_relation, tokens

RESERVED = ("not", "and", "or", "some", "every", "by")
STRANGE = ("", " ", "x ", " x", "x y", "_", "x_", "x-y", "\n", "x\n", "\xe9", "x\xe9", "\u0661", "y\u0661", "\xb2",
           "y\xb2", "\u0391", "\u0391b", "C\xe9", "(", "0", "10", "x" * 1000000)


class WordsTest(unittest.TestCase):

    def one_kind_only(self, check, texts):
        for text in texts:
            self.assertIs(check(text), True, text)
            for other in (is_name, is_letter, is_relation, is_choice):
                if other is not check:
                    self.assertIs(other(text), False, text)

    def test_names(self):
        self.one_kind_only(is_name, ["a", "z", "x", "abcdefgh", "zzzzzzzz", "nota", "no", "bye", "ands", "somes"])
        for text in ["abcdefghi", "Abc", "aBc", "abC", "a1", "1a", "ab1"]:
            self.assertIs(is_name(text), False, text)

    def test_reserved_words(self):
        for text in RESERVED:
            for check in (is_name, is_letter, is_relation, is_choice):
                self.assertIs(check(text), False, text)
        self.one_kind_only(is_relation, [text.upper() for text in RESERVED])
        self.one_kind_only(is_choice, [text[0].upper() + text[1:] for text in RESERVED])

    def test_letters(self):
        self.one_kind_only(is_letter, ["y0", "p1", "a0", "z9", "m5"])
        for text in ["y", "0", "y10", "yy1", "Y0", "0y", "00", "y ", "y-"]:
            self.assertIs(is_letter(text), False, text)

    def test_relations(self):
        self.one_kind_only(is_relation, ["A", "Z", "R", "ABCDEFGH", "ZZZZZZZZ"])
        for text in ["ABCDEFGHI", "Rr", "rR", "R1", "1R"]:
            self.assertIs(is_relation(text), False, text)

    def test_choices(self):
        self.one_kind_only(is_choice, ["Aa", "Zz", "Low", "Abcdefgh", "Zzzzzzzz"])
        for text in ["L", "l", "Abcdefghi", "LOw", "LoW", "low", "L1", "Lo1", "1Lo"]:
            self.assertIs(is_choice(text), False, text)

    def test_strange_texts(self):
        for text in STRANGE:
            for check in (is_name, is_letter, is_relation, is_choice):
                self.assertIs(check(text), False, repr(text[:9]))


class TokensTest(PackageTest):

    def test_places(self):
        self.assertEqual(tokens(""), [])
        self.assertEqual(tokens("   "), [])
        self.assertEqual(tokens("x"), [(0, "x")])
        self.assertEqual(tokens(" f( y1 )<=3->not R"),
                         [(1, "f"), (2, "("), (4, "y1"), (7, ")"), (8, "<="), (10, "3"), (11, "->"), (13, "not"),
                          (17, "R")])
        self.assertEqual(tokens("<==->:,+)("),
                         [(0, "<="), (2, "="), (3, "->"), (5, ":"), (6, ","), (7, "+"), (8, ")"), (9, "(")])

    def test_every_kind_of_word(self):
        words = ["x", "abcdefgh", "y0", "R", "ABCDEFGH", "Low", "Abcdefgh", "0", "1", "9", "10", "99", *RESERVED]
        for word in words:
            self.assertEqual(tokens("  " + word + " "), [(2, word)])
        self.assertEqual([token for _, token in tokens(" ".join(words))], words)

    def test_first_character_that_begins_no_token(self):
        for text, place in [("<", 0), ("x < = y", 2), ("x - y", 2), ("x ->- y", 4), ("x > y", 2), ("x\ny", 1),
                            ("x\t", 1), ("x = _", 4), ("\xe9", 0), ("x\xe9", 1), (" y\u0661", 2), ("x . y ; z", 2),
                            ("R[x]", 1), ("-", 0), ("((-", 2), ("x %", 2)]:
            self.refuses(BadText, {"place": place}, tokens, text)

    def test_first_word_that_is_none(self):
        for text, place in [("abcdefghi", 0), (" ABCDEFGHI", 1), ("x Abcdefghi", 2), ("y10", 0), ("x = 00", 4),
                            ("01", 0), ("100", 0), ("x + 007", 4), ("1x", 0), ("x1y", 0), ("LOw", 0), ("lOw", 0),
                            ("R1", 0), ("Lo1", 0), ("x = 12a", 4), ("abcdefghi -", 0), ("- abcdefghi", 0)]:
            self.refuses(BadText, {"place": place}, tokens, text)

    def test_lengths(self):
        self.assertEqual(tokens(" " * 999 + "x"), [(999, "x")])
        self.assertEqual(len(tokens("(" * 1000)), 1000)
        self.refuses(TooLarge, {}, tokens, " " * 1000 + "x")
        self.refuses(TooLarge, {}, tokens, "-" * 1001)
        self.refuses(BadText, {"place": 0}, tokens, "-" * 1000)

    def test_each_list_is_new(self):
        first = tokens("x = y")
        first.append((9, "z"))
        first[0] = (0, "w")
        self.assertEqual(tokens("x = y"), [(0, "x"), (2, "="), (4, "y")])


if __name__ == "__main__":
    unittest.main()

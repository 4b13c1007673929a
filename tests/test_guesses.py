"""Point 18: guesses."""

import unittest

from support import PackageTest

from rightatlast.errors import BadEntry, BadRow, Clash, Standing, TooLarge
from rightatlast.guesses import Guesses

ROWS = [("Low", (3, 1), 5), ("Ca", (), 0), ("Low", (3,), 7), ("Low", (), 99999), ("Low", (20, 0), 1), ("Ca", (9,), 2)]
SORTED = (("Ca", (), 0), ("Ca", (9,), 2), ("Low", (), 99999), ("Low", (3,), 7), ("Low", (3, 1), 5),
          ("Low", (20, 0), 1))
TEXT = "Ca = 0\nCa(9) = 2\nLow = 99999\nLow(3) = 7\nLow(3, 1) = 5\nLow(20, 0) = 1"
GUESSES = Guesses(ROWS)
BAD_ROWS = [("low", (), 0), ("", (), 0), ("L", (), 0), ("LOW", (), 0), ("Abcdefghi", (), 0), ("Low", (0,) * 7, 0),
            ("Low", (100000,), 0), ("Low", (0, 0, 100000), 0), ("Low", (), 100000), ("Low", (), 10 ** 3999)]


def many(count):
    """A list of this number of rows."""
    return [("Low", (number,), 1) for number in range(count)]


class RowsTest(PackageTest):

    def test_rows_in_any_order(self):
        self.assertEqual(GUESSES.rows, SORTED)
        self.assertEqual(GUESSES.text, TEXT)
        self.assertEqual(Guesses(list(reversed(ROWS))), GUESSES)
        self.reads_back(Guesses.read, GUESSES)

    def test_capitals_and_numbers_are_ordered_as_python_orders_them(self):
        rows = Guesses([("Ab", (10,), 1), ("Aa", (), 1), ("Ab", (9, 5), 1), ("B" + "a", (), 1), ("Ab", (9,), 1)]).rows
        self.assertEqual([row[:2] for row in rows],
                         [("Aa", ()), ("Ab", (9,)), ("Ab", (9, 5)), ("Ab", (10,)), ("Ba", ())])

    def test_no_rows(self):
        empty = Guesses([])
        self.assertEqual((empty.rows, empty.text, len(empty), list(empty)), ((), "", 0, []))
        self.assertEqual(Guesses.read(""), empty)

    def test_length_and_iteration(self):
        self.assertEqual(len(GUESSES), 6)
        self.assertEqual(tuple(GUESSES), SORTED)
        self.assertEqual([name for name, numbers, number in GUESSES], [row[0] for row in SORTED])
        self.assertEqual(list(GUESSES), list(GUESSES))

    def test_equality(self):
        self.assertNotEqual(GUESSES, Guesses(ROWS[1:]))
        self.assertNotEqual(Guesses([("Low", (), 0)]), Guesses([]))
        self.assertFalse(GUESSES == TEXT)

    def test_a_list_that_is_changed_afterwards(self):
        rows = list(ROWS)
        guesses = Guesses(rows)
        rows[0] = ("Low", (3, 1), 6)
        rows.append(("Up", (), 1))
        self.assertEqual(guesses.text, TEXT)

    def test_many_rows(self):
        self.assertEqual(len(Guesses(many(5000))), 5000)
        self.refuses(TooLarge, {}, Guesses, many(5001))
        self.refuses(TooLarge, {}, Guesses, BAD_ROWS[:1] * 5001)

    def test_rows_that_cannot_be_entries(self):
        for row in BAD_ROWS:
            self.refuses(BadEntry, {"entry": 2}, Guesses, [("Low", (1,), 0), row, row])
        self.refuses(BadEntry, {"entry": 3}, Guesses, [("Low", (1,), 0), ("Low", (), 0), ("Low", (1,), 0), BAD_ROWS[0]])
        self.refuses(BadEntry, {"entry": 2}, Guesses, [("Low", (1,), 0), ("Low", (1,), 5)])
        self.assertEqual(Guesses([("Abcdefgh", (99999,) * 6, 99999)]).rows, (("Abcdefgh", (99999,) * 6, 99999),))


class ReadingTest(PackageTest):

    def test_rows_in_any_order(self):
        self.assertEqual(Guesses.read("\n".join(reversed(TEXT.split("\n")))).text, TEXT)
        self.assertEqual(Guesses.read("Low(3, 1) = 5").rows, (("Low", (3, 1), 5),))
        self.assertEqual(Guesses.read("Low = 0").rows, (("Low", (), 0),))

    def test_rows_of_another_form(self):
        for row in ["", " ", "Low", "Low =", "Low = ", "Low = x", "Low = 05", "Low = 100000", "Low = -1", "Low = 1 ",
                    " Low = 1", "Low  = 1", "Low =  1", "Low=1", "Low() = 1", "Low( ) = 1", "Low(3,1) = 5",
                    "Low(3,  1) = 5", "Low(3 , 1) = 5", "Low (3) = 5", "Low( 3) = 5", "Low(3 ) = 5", "Low(3)= 5",
                    "Low(03) = 5", "Low(3, ) = 5", "Low(3 = 5", "Low(35 = 5", "Low(3, 15 = 5", "Low3) = 5", "Low(x) = 5", "Low(3)) = 5",
                    "Low((3) = 5", "Low(100000) = 5", "Low(1, 2, 3, 4, 5, 6, 7) = 5", "low = 5", "LOW = 5", "L = 5",
                    "Abcdefghi = 5", "Low = 5 = 5", "Low(3) = 5\t", "Low(+3) = 5", "Low = " + "9" * 5000,
                    "Low(3)(3) = 5", "Low = 00", "3 = 3", " = 3", "(3) = 5"]:
            with self.subTest(row=row):
                self.refuses(BadRow, {"row": 2}, Guesses.read, f"Ca = 1\n{row}\nCb = 1")

    def test_the_first_row_counts(self):
        self.refuses(BadRow, {"row": 2}, Guesses.read, "Low = 1\nLow = 1\nlow = 1")
        self.refuses(BadRow, {"row": 2}, Guesses.read, "Low = 1\nlow = 1\nLow = 1")
        self.refuses(BadRow, {"row": 3}, Guesses.read, "Low(1) = 1\nLow(2) = 1\nLow(1) = 2\n")
        self.refuses(BadRow, {"row": 2}, Guesses.read, "Low = 1\n")

    def test_many_rows(self):
        text = Guesses(many(5000)).text
        self.assertEqual(len(Guesses.read(text)), 5000)
        self.refuses(TooLarge, {}, Guesses.read, text + "\nUp = 1")
        self.refuses(TooLarge, {}, Guesses.read, "\n" * 5000)
        self.refuses(BadRow, {"row": 1}, Guesses.read, "\n" * 4999)


class MethodsTest(PackageTest):

    def test_at_and_has(self):
        self.assertEqual([GUESSES.at("Low", (3, 1)), GUESSES.at("Low", ()), GUESSES.at("Ca", ())], [5, 99999, 0])
        self.assertIs(GUESSES.has("Ca", ()), True)
        self.assertIs(GUESSES.has("Low", (3, 1)), True)
        for name, numbers in (("Low", (1, 3)), ("Low", (3, 1, 0)), ("low", ()), ("", (1,) * 9), ("Up", (10 ** 9,))):
            self.assertEqual(GUESSES.at(name, numbers), 0)
            self.assertIs(GUESSES.has(name, numbers), False)

    def test_added(self):
        more = GUESSES.added("Low", (3, 0), 4)
        self.assertEqual(more.text, TEXT.replace("Low(3, 1)", "Low(3, 0) = 4\nLow(3, 1)"))
        self.assertEqual(GUESSES.text, TEXT)
        self.assertEqual(Guesses([]).added("Ca", (), 0).text, "Ca = 0")

    def test_added_with_errors(self):
        for row in BAD_ROWS:
            self.refuses(BadEntry, {"entry": 1}, GUESSES.added, *row)
        self.refuses(Standing, {"name": "Low", "numbers": (3, 1)}, GUESSES.added, "Low", (3, 1), 5)
        self.refuses(Standing, {"name": "Ca", "numbers": ()}, GUESSES.added, "Ca", (), 1)
        self.refuses(BadEntry, {"entry": 1}, GUESSES.added, "Low", (3, 1), 100000)
        full = Guesses(many(5000))
        self.refuses(TooLarge, {}, full.added, "Low", (5000,), 1)
        self.refuses(Standing, {"name": "Low", "numbers": (4999,)}, full.added, "Low", (4999,), 1)
        self.refuses(BadEntry, {"entry": 1}, full.added, "low", (5000,), 1)
        self.assertEqual(len(Guesses(many(4999)).added("Low", (4999,), 1)), 5000)

    def test_without(self):
        self.assertEqual(GUESSES.without(["Low"]).text, "Ca = 0\nCa(9) = 2")
        self.assertEqual(GUESSES.without(["Low", "Ca", "x"]).text, "")
        self.assertEqual(GUESSES.without([]), GUESSES)
        self.assertEqual(GUESSES.without(["Lo", "low", ""]), GUESSES)
        self.assertEqual(GUESSES.text, TEXT)

    def test_within(self):
        self.assertIs(Guesses(ROWS[2:4]).within(GUESSES), True)
        self.assertIs(GUESSES.within(GUESSES), True)
        self.assertIs(Guesses([]).within(Guesses([])), True)
        self.assertIs(GUESSES.within(Guesses(ROWS[1:])), False)
        self.assertIs(Guesses([("Low", (3,), 6)]).within(GUESSES), False)
        self.assertIs(Guesses([("Up", (), 0)]).within(GUESSES), False)

    def test_both(self):
        other = Guesses([("Up", (), 3), ("Low", (3,), 7)])
        self.assertEqual((GUESSES | other).text, TEXT + "\nUp = 3")
        self.assertEqual(other | GUESSES, GUESSES | other)
        self.assertEqual(GUESSES | GUESSES, GUESSES)
        self.assertEqual(GUESSES | Guesses([]), GUESSES)
        self.assertEqual((GUESSES.text, other.text), (TEXT, "Low(3) = 7\nUp = 3"))

    def test_both_with_errors(self):
        other = Guesses([("Low", (3, 1), 6), ("Low", (3,), 7), ("Ca", (9,), 3), ("Ba", (), 1)])
        self.refuses(Clash, {"name": "Ca", "numbers": (9,)}, lambda: GUESSES | other)
        self.refuses(Clash, {"name": "Low", "numbers": (3, 1)}, lambda: GUESSES.without(["Ca"]) | other)
        self.refuses(Clash, {"name": "Ca", "numbers": ()}, lambda: Guesses([("Ca", (), 0)]) | Guesses([("Ca", (), 1)]))
        full = Guesses(many(5000))
        self.refuses(TooLarge, {}, lambda: full | Guesses([("Up", (), 1)]))
        self.refuses(TooLarge, {}, lambda: Guesses([("Up", (), 1)]) | full)
        self.refuses(Clash, {"name": "Low", "numbers": (7,)},
                     lambda: full | Guesses([("Up", (), 1), ("Low", (7,), 2)]))
        self.assertEqual(len(full | Guesses(many(3))), 5000)


if __name__ == "__main__":
    unittest.main()

"""Point 47: codes, their rows and texts."""

import unittest

from samples import some_task
from support import PackageTest

from rightatlast.books import Book
from rightatlast.codes import Code, code_of
from rightatlast.errors import BadRow, TooLarge, UpperTask
from rightatlast.tasks import Task
from rightatlast.tower import tower
from rightatlast.worlds import World

BOOK = Book.read("fun f 1\nfun g 2\nrel R 1\nrel S 2\npick Low 1: f(y0) <= p1\n"
                 "pick Two 2: ((R(y0) and not S(p1, y0 + 2)) or (y0 = 3 -> g(p2, 1) = y0))\npick Any 0: R(y0)\n"
                 "pick Up 1: Low(p1) <= y0\npick None 1: 0 <= p1")
WORLD = World.read(BOOK, "top 0\nf 1\ng 1\nR 1\nS 0")
TWO_BODY = [("body", "Two"), ("letter", "y0"), ("holds", "R", 1), ("letter", "p1"), ("letter", "y0"), ("add", 2),
            ("holds", "S", 2), ("not",), ("and",), ("letter", "y0"), ("number", 3), ("same",), ("letter", "p2"),
            ("number", 1), ("call", "g", 2), ("letter", "y0"), ("same",), ("if",), ("or",), ("end",)]
ANY_BODY = [("body", "Any"), ("letter", "y0"), ("holds", "R", 1), ("end",)]
LOW_BODY = [("body", "Low"), ("letter", "y0"), ("call", "f", 1), ("letter", "p1"), ("most",), ("end",)]


def task(*rows):
    """The task with these demands."""
    return Task(BOOK, WORLD, {"x": 5, "z": 1}, list(rows))


class CodeOfTest(PackageTest):

    def test_a_task_without_demands(self):
        code = code_of(task())
        self.assertIsInstance(code, Code)
        self.assertEqual((code.rows, code.text, len(code), str(code)), ((("stop",),), "stop", 1, "stop"))

    def test_one_demand(self):
        rows = LOW_BODY + [
            ("demand", 1), ("name", "z"), ("call", "f", 1), ("name", "x"), ("most",), ("name", "x"), ("guess", "Low", 1),
            ("call", "f", 1), ("name", "x"), ("most",), ("if",), ("pass", 22), ("name", "x"), ("name", "z"),
            ("correct", "Low", 1, 1), ("stop",)]
        code = code_of(task("Low(x) by z"))
        self.assertEqual(code.rows, tuple(rows))
        self.assertEqual(code.text.split("\n")[2:8], ["call f 1", "letter p1", "most", "end", "demand 1", "name z"])
        self.assertEqual(code.text.split("\n")[17:], ["pass 22", "name x", "name z", "correct Low 1 1", "stop"])

    def test_two_demands(self):
        # The bodies stand in the order of the book, and only those of the choices of demands.
        first = [("demand", 1), ("name", "x"), ("add", 4), ("call", "f", 1), ("holds", "R", 1), ("guess", "Any", 0),
                 ("holds", "R", 1), ("if",), ("pass", 38), ("name", "x"), ("add", 4), ("call", "f", 1),
                 ("correct", "Any", 0, 1)]
        by = [("number", 7)]
        head = [("guess", "Any", 0), ("add", 1), ("number", 12), ("guess", "Two", 2)]

        def body(rows):
            """The rows of the body of Two at Any + 1 and 12 and at a term with these rows."""
            return rows + [("holds", "R", 1), ("guess", "Any", 0), ("add", 1)] + (
                rows + [("add", 2)] if len(rows) > 1 else [("number", 9)]) + [("holds", "S", 2), ("not",), ("and",)] + (
                    rows + [("number", 3), ("same",), ("number", 12), ("number", 1), ("call", "g", 2)]) + (
                        rows + [("same",), ("if",), ("or",)])

        second = [("demand", 2)] + body(by) + body(head) + [("if",)]
        end = head[:3] + by + [("correct", "Two", 2, 2)]
        before = TWO_BODY + ANY_BODY + first
        behind = len(before) + len(second) + 1 + len(end) + 1
        rows = before + second + [("pass", behind)] + end + [("stop",)]
        code = code_of(task("Any by f(x + 4)", "Two(Any + 1, 12) by 7"))
        self.assertEqual(code.rows, tuple(rows))
        self.assertEqual(len(before), 37)
        self.assertEqual(len(code), behind)

    def test_a_row_is_passed_to_behind_its_correct_row(self):
        code = code_of(tower(5))
        rows = code.rows
        corrects = [place for place, row in enumerate(rows, start=1) if row[0] == "correct"]
        self.assertEqual([row[1] for row in rows if row[0] == "pass"], [place + 1 for place in corrects])
        self.assertEqual([rows[place - 1][3] for place in corrects], [1, 2, 3, 4, 5])
        self.assertEqual([row[1] for row in rows if row[0] == "demand"], [1, 2, 3, 4, 5])
        self.assertEqual([row[1] for row in rows if row[0] == "body"], ["Ca", "Cb", "Cc", "Cd", "Ce"])

    def test_each_body_once(self):
        rows = code_of(task("Low(x) by z", "Any by 1", "Low(3) by z", "Any by 2")).rows
        self.assertEqual([row[1] for row in rows if row[0] == "body"], ["Low", "Any"])
        # The choice of a term within a demand has no section.
        rows = code_of(task("Low(Any) by Two(1, 2)")).rows
        self.assertEqual([row[1] for row in rows if row[0] == "body"], ["Low"])

    def test_a_choice_without_y0(self):
        rows = code_of(task("None(Any) by 3")).rows
        self.assertEqual(rows, (("body", "None"), ("number", 0), ("letter", "p1"), ("most",), ("end",), ("demand", 1),
                                ("number", 0), ("guess", "Any", 0), ("most",), ("number", 0), ("guess", "Any", 0),
                                ("most",), ("if",), ("pass", 18), ("guess", "Any", 0), ("number", 3),
                                ("correct", "None", 1, 1), ("stop",)))

    def test_upper_tasks(self):
        self.refuses(UpperTask, {"demand": 1}, code_of, task("Up(x) by 1"))
        self.refuses(UpperTask, {"demand": 2}, code_of, task("Low(x) by 1", "Up(x) by 1", "Low(2) by 1", "Up(2) by 1"))
        # An upper choice within a ground demand does not make it upper.
        self.assertEqual(code_of(task("Low(Up(3)) by Up(x)")).rows[0], ("body", "Low"))


class TextsTest(PackageTest):

    def test_texts_are_read_back(self):
        for made in [tower(6), task("Two(Any + 1, 12) by 7"), task()] + [some_task(seed, False) for seed in range(5)]:
            code = code_of(made)
            self.reads_back(Code.read, code)
            again = Code.read(code.text)
            self.assertEqual(again.rows, code.rows)
            self.assertEqual(len(again), len(code))
            self.assertEqual(code.text, "\n".join(" ".join(str(item) for item in row) for row in code.rows))

    def test_equality(self):
        code = code_of(task("Low(x) by z"))
        self.assertEqual(code, code_of(task("Low( x ) by  z")))
        self.assertNotEqual(code, code_of(task("Low(x) by x")))
        self.assertNotEqual(code, code.text)
        self.assertNotEqual(code, Code.read("stop"))

    def test_the_empty_text(self):
        self.assertEqual((Code.read("").rows, len(Code.read("")), Code.read("").text), ((), 0, ""))

    def test_rows_that_are_read(self):
        rows = [("number", 0), ("number", 99), ("name", "x"), ("name", "abcdefgh"), ("add", 1), ("add", 9),
                ("call", "f", 1), ("call", "abcdefgh", 2), ("guess", "Ca", 0), ("guess", "Abcdefgh", 6), ("letter", "y0"),
                ("letter", "p9"), ("letter", "a5"), ("same",), ("most",), ("holds", "R", 1), ("holds", "ABCDEFGH", 2),
                ("not",), ("and",), ("or",), ("if",), ("body", "Low"), ("end",), ("demand", 1), ("demand", 60),
                ("pass", 1), ("pass", 99999), ("correct", "Low", 0, 1), ("correct", "Low", 6, 60), ("stop",)]
        text = "\n".join(" ".join(str(item) for item in row) for row in rows)
        code = Code.read(text)
        self.assertEqual((code.rows, code.text, len(code)), (tuple(rows), text, 30))

    def test_rows_that_are_not_read(self):
        for row in ["number 100", "number -1", "number 00", "number 07", "number +1", "number x", "number", "number 1 2",
                    "number 1_0", "name", "name X", "name y0", "name abcdefghi", "name not", "name by", "name x 1",
                    "name 1", "add 0", "add 10", "add 01", "add", "add 1 1", "call f 0", "call f 3", "call F 1",
                    "call f", "call 1", "call some 1", "call f 1 1", "call f 01", "guess Ca 7", "guess ca 0",
                    "guess C 0", "guess CA 0", "guess Abcdefghi 0", "guess Ca", "guess Ca 00", "guess 0", "letter y",
                    "letter y00", "letter Y0", "letter 0y", "letter", "letter y0 1", "same 1", "same ", " same", "most 0",
                    "holds R 0", "holds R 3", "holds r 1", "holds Ra 1", "holds ABCDEFGHI 1", "holds R", "not x", "and 1",
                    "or 1", "if 1", "body", "body low", "body LOW", "body Low 1", "end 1", "demand", "demand 0",
                    "demand 61", "demand 1 1", "demand 01", "pass 0", "pass 100000", "pass 01", "pass", "pass 1 1",
                    "correct Low 0", "correct Low 7 1", "correct Low 0 0", "correct Low 0 61", "correct Low 1 01",
                    "correct low 0 1", "correct Low 1", "correct 1 1", "correct Low 1 1 1", "stop 1", "STOP", "Stop",
                    "", "halt", "number  1", "call f  1", "same\t", "letter y 0", "pass x", "x", "1", "name x\r"]:
            self.refuses(BadRow, {"row": 1}, Code.read, row if row != "" else "\n")
            self.refuses(BadRow, {"row": 3}, Code.read, "\n".join(["same", "stop", row, "number 100"]))

    def test_an_empty_row(self):
        self.refuses(BadRow, {"row": 2}, Code.read, "stop\n")
        self.refuses(BadRow, {"row": 1}, Code.read, "\nstop")

    def test_40000_and_40001_rows(self):
        self.assertEqual(len(Code.read("\n".join(["stop"] * 40000))), 40000)
        self.refuses(BadRow, {"row": 40000}, Code.read, "\n".join(["stop"] * 39999 + ["halt"]))
        self.refuses(TooLarge, {}, Code.read, "\n".join(["halt"] + ["stop"] * 40000))


if __name__ == "__main__":
    unittest.main()

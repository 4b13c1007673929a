"""Points 36 and 37: boxes and what may be cited."""

import unittest

from support import PackageTest

from rightatlast.books import Book
from rightatlast.boxes import boxes_of, may_cite, may_cite_box
from rightatlast.derivations import Derivation
from rightatlast.errors import WrongLine

BOOK = Book.read("rel R 1")


def shape(*marks):
    """A derivation whose lines have these depths; an opening line is marked by a plus sign."""
    rows = ["| " * int(mark.strip("+")) + "x = x ; " + ("assume" if "+" in mark else "order") for mark in marks]
    return Derivation.read(BOOK, "\n".join(rows))


# Box 2 holds 2 to 7, box 3 holds 3 and 4, box 5 holds 5 and 6. Box 8 holds 8 alone. Box 10 ends deeper than it begins.
MIXED = shape("0", "1+", "2+", "2", "2+", "2", "1", "1+", "0", "1+", "2+", "2", "0")


class BoxesTest(PackageTest):

    def test_boxes(self):
        found = [boxes_of(MIXED, number) for number in range(1, 14)]
        self.assertEqual(found, [(), (2,), (2, 3), (2, 3), (2, 5), (2, 5), (2,), (8,), (), (10,), (10, 11), (10, 11), ()])
        self.assertIs(type(found[2]), tuple)

    def test_a_box_at_the_same_depth_closes_the_one_before(self):
        derivation = shape("1+", "1+", "1", "2+", "2+", "1+", "0")
        self.assertEqual([boxes_of(derivation, number) for number in range(1, 8)],
                         [(1,), (2,), (2,), (2, 4), (2, 5), (6,), ()])

    def test_several_boxes_end_together(self):
        derivation = shape("1+", "2+", "3+", "3", "1", "2+", "3+", "1+", "0")
        self.assertEqual([boxes_of(derivation, number) for number in range(4, 10)],
                         [(1, 2, 3), (1,), (1, 6), (1, 6, 7), (8,), ()])

    def test_twenty_boxes(self):
        derivation = shape(*[f"{depth}+" for depth in range(1, 21)], "20", "7")
        self.assertEqual(boxes_of(derivation, 21), tuple(range(1, 21)))
        self.assertEqual(boxes_of(derivation, 22), tuple(range(1, 8)))

    def test_the_rule_on_the_last_line_is_not_examined(self):
        self.assertEqual(boxes_of(shape("1+"), 1), (1,))
        self.assertEqual(boxes_of(shape("0", "1+", "2+", "2"), 4), (2, 3))


class DepthsTest(PackageTest):

    def bad(self, line, *marks):
        """The first line of a bad depth is this one; the lines before it are in order."""
        derivation = shape(*marks)
        for number in range(1, len(derivation) + 1):
            for call in (boxes_of, lambda one, at: may_cite(one, at, 1), lambda one, at: may_cite_box(one, at, 1)):
                if number < line:
                    call(derivation, number)
                else:
                    self.refuses(WrongLine, {"line": line}, call, derivation, number)

    def test_opening_lines(self):
        self.bad(1, "0+", "0")
        self.bad(1, "2+", "0")
        self.bad(2, "0", "0+", "0")
        self.bad(2, "0", "2+", "2")
        self.bad(2, "1+", "3+", "0")
        self.bad(4, "1+", "2+", "1", "3+", "0")
        for marks in (("1+",), ("0", "1+"), ("1+", "1+"), ("1+", "2+"), ("1+", "2+", "3+", "1+"), ("1+", "1", "2+")):
            self.assertEqual(len(boxes_of(shape(*marks), len(marks))), int(marks[-1][0]))

    def test_other_lines(self):
        self.bad(1, "1", "0")
        self.bad(2, "0", "1", "0")
        self.bad(2, "1+", "2", "0")
        self.bad(4, "1+", "2+", "1", "2", "0")
        for marks in (("0",), ("1+", "1"), ("1+", "0"), ("1+", "2+", "3+", "3"), ("1+", "2+", "3+", "0")):
            self.assertEqual(len(boxes_of(shape(*marks), len(marks))), int(marks[-1][0]))

    def test_the_first_of_several(self):
        self.bad(3, "1+", "1", "2", "3", "0+")
        self.bad(2, "0", "5+", "9", "0+", "0")


class CitingLinesTest(PackageTest):

    def cited(self, derivation, number):
        """The numbers of the lines that a line may cite."""
        answers = [may_cite(derivation, number, cited) for cited in range(len(derivation) + 3)]
        self.assertEqual({type(answer) for answer in answers}, {bool})
        return [cited for cited, answer in enumerate(answers) if answer]

    def test_lines_within_open_boxes(self):
        found = [self.cited(MIXED, number) for number in range(1, 14)]
        self.assertEqual(found, [[], [1], [1, 2], [1, 2, 3], [1, 2], [1, 2, 5], [1, 2], [1], [1], [1, 9], [1, 9, 10],
                                 [1, 9, 10, 11], [1, 9]])

    def test_a_line_may_not_cite_itself_or_later_ones(self):
        derivation = shape("0", "0", "0")
        self.assertEqual([self.cited(derivation, number) for number in (1, 2, 3)], [[], [1], [1, 2]])
        for cited in (0, 4, 5, 1200):
            self.assertIs(may_cite(derivation, 3, cited), False)

    def test_a_box_that_is_opened_again_at_the_same_depth(self):
        derivation = shape("1+", "1", "1+", "1", "0")
        self.assertEqual([self.cited(derivation, number) for number in (3, 4, 5)], [[], [3], []])


class CitingBoxesTest(PackageTest):

    def cited(self, derivation, number):
        """The numbers of the lines whose boxes a line may cite."""
        answers = [may_cite_box(derivation, number, opening) for opening in range(len(derivation) + 3)]
        self.assertEqual({type(answer) for answer in answers}, {bool})
        return [opening for opening, answer in enumerate(answers) if answer]

    def test_boxes_that_have_ended_within_open_ones(self):
        found = [self.cited(MIXED, number) for number in range(1, 14)]
        self.assertEqual(found, [[], [], [], [], [3], [3], [3, 5], [2], [2, 8], [2, 8], [2, 8], [2, 8], [2, 8]])

    def test_from_within_and_from_behind(self):
        derivation = shape("1+", "1", "2+", "2", "1", "0", "0")
        self.assertEqual([self.cited(derivation, number) for number in range(1, 8)], [[], [], [], [], [3], [1], [1]])

    def test_a_box_whose_last_line_is_deeper(self):
        derivation = shape("1+", "2+", "2", "0", "0")
        self.assertEqual([self.cited(derivation, number) for number in (4, 5)], [[], []])
        derivation = shape("1+", "2+", "2", "1", "0", "0")
        self.assertEqual([self.cited(derivation, number) for number in (4, 5, 6)], [[2], [1], [1]])

    def test_a_box_of_one_line(self):
        derivation = shape("1+", "1+", "2+", "1+", "0")
        self.assertEqual([self.cited(derivation, number) for number in (2, 3, 4, 5)], [[1], [1], [1], [1, 4]])

    def test_lines_that_open_no_box_and_lines_that_are_none(self):
        derivation = shape("1+", "1", "0", "0")
        for opening in (0, 2, 3, 4, 5, 1200):
            self.assertIs(may_cite_box(derivation, 4, opening), False)

    def test_later_boxes(self):
        derivation = shape("0", "1+", "1", "0")
        self.assertEqual([self.cited(derivation, number) for number in (1, 2, 3, 4)], [[], [], [], [2]])


if __name__ == "__main__":
    unittest.main()

"""What derivations and spoken derivations have in common, when their lines are examined: point 38."""

from rightatlast.follows import entails
from rightatlast.orders import order_gap
from rightatlast.pieces import members_of
from rightatlast.swaps import is_swap

BOX_REASONS = ("if", "cases")


class Granting:
    """The lines of a derivation, with what the reasons that need no choices grant."""

    def __init__(self, lines, frames):
        self.lines = lines
        self.frames = frames

    def formula_at(self, number):
        """The formula of the line with a number."""
        return self.lines[number - 1].formula

    def shown_by(self, opening):
        """The formula that the box that a line opens shows."""
        return self.formula_at(self.frames.last_lines[opening])

    def can_cite_all(self, number):
        """True if a line may cite all lines, or for `if` and `cases` all boxes, that its reason cites."""
        line = self.lines[number - 1]
        if line.reason in BOX_REASONS:
            return all([self.frames.can_cite_box(number, opening) for opening in line.numbers])
        return all([self.frames.can_cite(number, cited) for cited in line.numbers])

    def is_granted_by_itself(self, line):
        """True if the formula of a line with a reason that needs no choices is one that this reason grants."""
        if line.reason == "assume":
            return True
        if line.reason == "order":
            return order_gap(line.formula) is None
        if line.reason in BOX_REASONS:
            return self.is_shown_by_boxes(line)
        return self.is_shown_by_lines(line)

    def is_shown_by_boxes(self, line):
        """True if an `if` or `cases` line has the formula that its boxes show."""
        assumed = [self.formula_at(opening) for opening in line.numbers]
        shown = [self.shown_by(opening) for opening in line.numbers]
        if line.reason == "if":
            return line.formula == assumed[0] >> shown[0]
        return assumed[1] == ~assumed[0] and line.formula == shown[0] and line.formula == shown[1]

    def is_shown_by_lines(self, line):
        """True if a `follows`, `among` or `swap` line has a formula that the cited ones show."""
        cited = [self.formula_at(number) for number in line.numbers]
        if line.reason == "follows":
            return entails(cited, line.formula)
        if line.reason == "among":
            members = [member.text for member in members_of(line.formula)]
            return all([member.text in members for member in members_of(cited[0])])
        sides = cited[0].terms
        return cited[0].kind == "same" and is_swap(line.formula, cited[1], sides[0], sides[1])

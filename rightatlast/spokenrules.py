"""Right and wrong lines of spoken derivations: points 51 to 53."""

from rightatlast.errors import RightatlastError
from rightatlast.formulas import Formula
from rightatlast.granting import Granting
from rightatlast.putting import put_letters, put_names
from rightatlast.spokennames import frames_of_spoken, usable_names
from rightatlast.terms import Term

MAKING_REASONS = ("fresh", "take")


def put_for_letter(formula, term):
    """The part of a formula with a quantifier in front, with a term put for the letter of this quantifier."""
    return put_letters(formula.parts[0], {formula.name: term})


class SpokenExamination(Granting):
    """The examination of the lines of a spoken derivation."""

    def __init__(self, spoken):
        super().__init__(spoken.lines, frames_of_spoken(spoken.lines))
        self.spoken = spoken

    def is_right(self, number):
        """True if the line with a number is right, where all lines before it are and its depth is in bounds."""
        line = self.lines[number - 1]
        if number == len(self.lines) and line.depth != 0:
            return False
        if not self.closes_well(number) or not self.cites_well(number) or not self.names_well(number):
            return False
        try:
            return self.is_granted(number)
        except RightatlastError:
            # A formula that is too large to be examined, or one that the reason does not take.
            return False

    def closes_well(self, number):
        """True if each `fresh` box that ends in front of a line is closed by it as it has to be."""
        line = self.lines[number - 1]
        for opening in self.frames.boxes[number - 1]:
            if opening in self.frames.boxes[number] or self.lines[opening - 1].reason != "fresh":
                continue
            closed = line.numbers[-1:] if line.reason in ("every", "induct") else ()
            if closed != (opening,) or line.depth != self.lines[opening - 1].depth - 1:
                return False
        return True

    def ends_fresh_box(self, number, opening):
        """True if a line is the first one behind the `fresh` box that another line opens."""
        if opening not in self.frames.boxes[number - 1] or opening in self.frames.boxes[number]:
            return False
        return self.lines[opening - 1].reason == "fresh"

    def cites_well(self, number):
        """True if a line may cite the lines and boxes that its reason cites."""
        line = self.lines[number - 1]
        if line.reason == "every":
            return self.ends_fresh_box(number, line.numbers[0]) and self.frames.can_cite_box(number, line.numbers[0])
        cited = line.numbers
        if line.reason == "induct":
            if not self.ends_fresh_box(number, line.numbers[1]):
                return False
            cited = line.numbers[:1]
        if any([0 < other < number and self.lines[other - 1].formula is None for other in cited]):
            return False
        if line.reason == "induct":
            return self.frames.can_cite(number, line.numbers[0])
        return self.can_cite_all(number)

    def names_well(self, number):
        """True if a line uses only names that it may use, and the name that it makes is new."""
        line = self.lines[number - 1]
        if line.reason in MAKING_REASONS:
            made = [other.name for other in self.lines[:number - 1] if other.reason in MAKING_REASONS]
            if line.name in self.spoken.inputs or line.name in made:
                return False
        usable = usable_names(self.spoken, self.frames, number)
        things = [thing for thing in (line.formula, line.term) if thing is not None]
        return all([name in usable for thing in things for name in thing.names])

    def is_granted(self, number):
        """True if the formula of a line is one that its reason grants; some errors tell that it is none."""
        line = self.lines[number - 1]
        if line.reason == "fresh":
            return True
        if line.reason in ("some", "each", "take"):
            return self.is_put_for_letter(line)
        if line.reason == "least":
            return self.is_least(line)
        if line.reason == "every":
            return self.is_shown_for_every(line)
        if line.reason == "induct":
            return self.is_shown_by_induction(number)
        return self.is_granted_by_itself(line)

    def is_put_for_letter(self, line):
        """True if one of the formulas of a `some`, `each` or `take` line and of the cited one is put into the other."""
        cited = self.formula_at(line.numbers[0])
        if line.reason == "some":
            return line.formula.kind == "some" and cited == put_for_letter(line.formula, line.term)
        if line.reason == "each":
            return cited.kind == "every" and line.formula == put_for_letter(cited, line.term)
        return cited.kind == "some" and line.formula == put_for_letter(cited, Term.of_name(line.name))

    def is_least(self, line):
        """True if a `least` line has the formula that tells that a taken name is the least number."""
        taking = self.lines[line.numbers[0] - 1]
        if taking.reason != "take":
            return False
        cited = self.formula_at(taking.numbers[0])
        if cited.parts[0].quantified:
            return False
        taken = Term.of_name(taking.name)
        return line.formula == put_for_letter(cited, line.term) >> Formula.most(taken, line.term)

    def is_shown_for_every(self, line):
        """True if an `every` line has the formula that its box shows for every number."""
        opening = self.lines[line.numbers[0] - 1]
        if line.formula.kind != "every" or opening.name in line.formula.names:
            return False
        return self.shown_by(line.numbers[0]) == put_for_letter(line.formula, Term.of_name(opening.name))

    def is_shown_by_induction(self, number):
        """True if an `induct` line has the formula that a line and a box show for each number."""
        line = self.lines[number - 1]
        first, box = line.numbers
        name = self.lines[box - 1].name
        second = self.lines[box]
        last = self.lines[number - 2]
        # The second line opens a box that ends with the first one. It is an `assume` box, since a `fresh` one would
        # have to be closed in another way.
        if box + 1 not in self.frames.boxes[number - 1] or last.depth != second.depth:
            return False
        if line.term.kind == "name" and line.term.name not in self.spoken.inputs:
            return False
        shown = [self.formula_at(first), last.formula, line.formula]
        word = Term.of_name(name)
        terms = [Term.of_number(0), word + 1, line.term]
        return all([one == put_names(second.formula, {name: term}) for one, term in zip(shown, terms)])


def first_wrong_spoken(spoken):
    """The number of the first wrong line, or 0 if a spoken derivation is accepted."""
    examination = SpokenExamination(spoken)
    for number in range(1, len(spoken.lines) + 1):
        if number == examination.frames.bad_line or not examination.is_right(number):
            return number
    return 0

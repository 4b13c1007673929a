"""Spoken derivations told as derivations: point 56."""

from rightatlast.demands import Demand
from rightatlast.derivations import Derivation
from rightatlast.errors import NeedsNumbers, TooLarge, TooWide, WrongLine
from rightatlast.follows import MOST_ATOMS
from rightatlast.inputs import check_given, check_inputs
from rightatlast.lines import MOST_LINES, Line
from rightatlast.pieces import atoms_of
from rightatlast.putting import put_names
from rightatlast.spokenlines import MOST_TURNS
from rightatlast.spokennames import frames_of_spoken
from rightatlast.spokenrules import first_wrong_spoken
from rightatlast.telling import told_in
from rightatlast.terms import Term


class Teller:
    """Tells an accepted spoken derivation, with numbers for its inputs or without."""

    def __init__(self, spoken, numbers):
        self.spoken = spoken
        self.numbers = dict(numbers)
        self.book = spoken.book
        self.told_lines = []
        # By the numbers of spoken lines: what their formulas are told as, and the numbers of the lines that say them.
        self.told_as = {}
        self.said = {}
        # What each name stands for at the moment.
        self.terms = {name: Term.of_number(numbers[name]) for name in spoken.inputs if name in numbers}
        self.closings = {}
        self.box_counts = []

    def tell_formulas(self):
        """Tells the formulas of all lines, by which the book grows."""
        for number, line in enumerate(self.spoken.lines, start=1):
            if line.formula is not None:
                told = told_in(self.book, line.formula)
                self.book = told.book
                self.told_as[number] = told

    def note_boxes(self):
        """Notes which line closes each `fresh` box, and how many boxes each line will be within."""
        lines = self.spoken.lines
        second_lines = {}
        for number, line in enumerate(lines, start=1):
            if line.reason in ("every", "induct"):
                self.closings[line.numbers[-1]] = number
            if line.reason == "induct":
                second_lines[line.numbers[1] + 1] = True
        for within in frames_of_spoken(lines).boxes:
            counted = [box for box in within if lines[box - 1].reason == "assume" and box not in second_lines]
            self.box_counts.append(len(counted))

    def formula_for(self, number):
        """The told formula of a spoken line, with what the names stand for."""
        return put_names(self.told_as[number].formula, self.terms)

    def letter_term(self, number):
        """The term that telling the formula of a spoken line puts for the letter of the quantifier in front."""
        return put_names(self.told_as[number].term, self.terms)

    def add_line(self, number, formula, reason, cited=(), terms=()):
        """Adds a line that belongs to a spoken line."""
        if reason == "follows":
            formulas = [self.told_lines[one - 1].formula for one in cited]
            if len(atoms_of([*formulas, formula])) > MOST_ATOMS:
                raise TooWide()
        if len(self.told_lines) == MOST_LINES:
            raise TooLarge()
        self.told_lines.append(Line(self.box_counts[number], formula, reason, cited, terms))

    def tell_by_demand(self, number, line):
        """Tells a `some` or `each` line."""
        cited = line.numbers[0]
        head = self.letter_term(number if line.reason == "some" else cited)
        by = put_names(line.term, self.terms)
        self.add_line(number, Demand(self.book, head, by).formula, "demand", (), (head, by))
        says = (self.said[cited], len(self.told_lines))
        self.add_line(number, self.formula_for(number), "follows", says)

    def tell_least(self, number, line):
        """Tells a `least` line."""
        head = self.terms[self.spoken.lines[line.numbers[0] - 1].name]
        by = put_names(line.term, self.terms)
        # A demand that is too large refuses itself.
        Demand(self.book, head, by)
        self.add_line(number, self.formula_for(number), "least", (), (head, by))

    def tell_line(self, number, line):
        """Tells a line that is not `fresh`."""
        if line.reason in ("some", "each"):
            self.tell_by_demand(number, line)
        elif line.reason == "least":
            self.tell_least(number, line)
        elif line.reason == "take":
            self.terms[line.name] = self.letter_term(line.numbers[0])
            self.add_line(number, self.formula_for(number), "among", (self.said[line.numbers[0]],))
        elif line.reason == "every":
            self.add_line(number, self.formula_for(number), "among", (self.said[number - 1],))
        else:
            cited = [self.said[one] for one in line.numbers]
            self.add_line(number, self.formula_for(number), line.reason, cited)
        self.said[number] = len(self.told_lines)

    def turns_to(self, term):
        """The number of turns of an induction to a term."""
        if term.kind == "number":
            return term.number
        if len(self.numbers) == 0:
            raise NeedsNumbers()
        if self.numbers[term.name] > MOST_TURNS:
            raise TooWide()
        return self.numbers[term.name]

    def tell_turns(self, opening, closing):
        """Tells the box of an induction once for each turn, and then the line that closes it."""
        line = self.spoken.lines[closing - 1]
        said = self.said[line.numbers[0]]
        for turn in range(self.turns_to(line.term)):
            self.terms[self.spoken.lines[opening - 1].name] = Term.of_number(turn)
            self.said[opening + 1] = said
            self.tell_lines(opening + 2, closing - 1)
            said = self.said[closing - 1]
        self.add_line(closing, self.formula_for(closing), "among", (said,))
        self.said[closing] = len(self.told_lines)

    def tell_lines(self, first, last):
        """Tells the lines from one to another."""
        number = first
        while number <= last:
            line = self.spoken.lines[number - 1]
            if line.reason != "fresh":
                self.tell_line(number, line)
            elif self.spoken.lines[self.closings[number] - 1].reason == "every":
                self.terms[line.name] = self.letter_term(self.closings[number])
            else:
                closing = self.closings[number]
                self.tell_turns(number, closing)
                number = closing
            number += 1


def tell(spoken, numbers):
    """The derivation that a spoken one is told as, with numbers for its inputs or, if the dict is empty, without."""
    wrong = first_wrong_spoken(spoken)
    if wrong > 0:
        raise WrongLine(wrong)
    check_inputs(numbers)
    if len(numbers) > 0:
        check_given(spoken.inputs, numbers)
    teller = Teller(spoken, numbers)
    teller.tell_formulas()
    teller.note_boxes()
    teller.tell_lines(1, len(spoken.lines))
    return Derivation(teller.book, teller.told_lines)

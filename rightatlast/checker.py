"""Right and wrong lines: points 36 to 42, and terms put for names: point 45."""

from rightatlast.boxes import frames_of
from rightatlast.choicerules import demand_formula, least_formula, zero_formula
from rightatlast.derivations import Derivation
from rightatlast.errors import HasFact, RightatlastError, WrongBook
from rightatlast.follows import entails
from rightatlast.moving import put_in_line
from rightatlast.orders import order_gap
from rightatlast.pieces import members_of
from rightatlast.putting import check_names, put_names
from rightatlast.swaps import is_swap

BOX_REASONS = ("if", "cases")


class Examination:
    """The examination of the lines of a derivation by a library."""

    def __init__(self, library, derivation):
        self.library = library
        self.book = derivation.book
        self.lines = derivation.lines
        self.frames = frames_of(derivation.lines)

    def formula_at(self, number):
        """The formula of the line with a number."""
        return self.lines[number - 1].formula

    def shown_by(self, opening):
        """The formula that the box that a line opens shows."""
        return self.formula_at(self.frames.last_lines[opening])

    def is_right(self, number):
        """True if the line with a number is right, where the depths of all lines up to it are."""
        line = self.lines[number - 1]
        if number == len(self.lines) and line.depth != 0:
            return False
        if line.reason in BOX_REASONS:
            cited = [self.frames.can_cite_box(number, opening) for opening in line.numbers]
        else:
            cited = [self.frames.can_cite(number, other) for other in line.numbers]
        if not all(cited):
            return False
        try:
            return self.is_granted(line)
        except RightatlastError:
            # A formula that is too large to be examined, or a formula, choice or fact that the reason does not take.
            return False

    def is_granted(self, line):
        """True if the formula of a line is one that its reason grants; some errors tell that it is none."""
        if line.reason == "assume":
            return True
        if line.reason == "fact":
            return line.formula == put_names(self.library.fact(line.name).claim, dict(line.puts))
        if line.reason == "order":
            return order_gap(line.formula) is None
        if len(line.terms) > 0:
            return line.formula == self.choice_formula(line)
        if line.reason in BOX_REASONS:
            return self.is_shown_by_boxes(line)
        return self.is_shown_by_lines(line)

    def choice_formula(self, line):
        """The formula of a demand, least or zero line."""
        if line.reason == "demand":
            return demand_formula(self.book, line.terms[0], line.terms[1])
        if line.reason == "least":
            return least_formula(self.book, line.terms[0], line.terms[1])
        return zero_formula(self.book, line.terms[0])

    def is_shown_by_boxes(self, line):
        """True if an `if` or `cases` line has the formula that its boxes show."""
        assumed = [self.formula_at(opening) for opening in line.numbers]
        shown = [self.shown_by(opening) for opening in line.numbers]
        if line.reason == "if":
            return line.formula == assumed[0] >> shown[0]
        return assumed[1] == ~assumed[0] and line.formula == shown[0] and line.formula == shown[1]

    def is_shown_by_lines(self, line):
        """True if a `follows`, `among` or `swap` line has a formula that the cited ones show."""
        cited = [self.formula_at(number) for number in line.numbers]
        if line.reason == "follows":
            return entails(cited, line.formula)
        if line.reason == "among":
            members = [member.text for member in members_of(line.formula)]
            return all([member.text in members for member in members_of(cited[0])])
        sides = cited[0].terms
        return cited[0].kind == "same" and is_swap(line.formula, cited[1], sides[0], sides[1])


def first_wrong_line(library, derivation):
    """The number of the first wrong line, or 0 if the derivation is accepted."""
    if library.book.text != derivation.book.text:
        raise WrongBook()
    examination = Examination(library, derivation)
    for number in range(1, len(derivation.lines) + 1):
        if number == examination.frames.bad_line or not examination.is_right(number):
            return number
    return 0


def is_accepted(library, derivation):
    """True if all lines of a derivation are right."""
    return first_wrong_line(library, derivation) == 0


def put_in_derivation(derivation, terms):
    """A derivation without fact lines with terms put for names."""
    for number, line in enumerate(derivation.lines, start=1):
        if line.reason == "fact":
            raise HasFact(number)
    check_names(terms)
    for term in terms.values():
        derivation.book.fits(term)
    return Derivation(derivation.book, [put_in_line(derivation.book, line, terms) for line in derivation.lines])

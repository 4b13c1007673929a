"""Right and wrong lines: points 36 to 42, and terms put for names: point 45."""

from rightatlast.boxes import frames_of
from rightatlast.choicerules import demand_formula, least_formula, zero_formula
from rightatlast.derivations import Derivation
from rightatlast.errors import HasFact, RightatlastError, WrongBook
from rightatlast.granting import Granting
from rightatlast.moving import put_in_line
from rightatlast.putting import check_names, put_names


class Examination(Granting):
    """The examination of the lines of a derivation by a library."""

    def __init__(self, library, derivation):
        super().__init__(derivation.lines, frames_of(derivation.lines))
        self.library = library
        self.book = derivation.book

    def is_right(self, number):
        """True if the line with a number is right, where the depths of all lines up to it are."""
        line = self.lines[number - 1]
        if number == len(self.lines) and line.depth != 0:
            return False
        if not self.can_cite_all(number):
            return False
        try:
            return self.is_granted(line)
        except RightatlastError:
            # A formula that is too large to be examined, or a formula, choice or fact that the reason does not take.
            return False

    def is_granted(self, line):
        """True if the formula of a line is one that its reason grants; some errors tell that it is none."""
        if line.reason == "fact":
            return line.formula == put_names(self.library.fact(line.name).claim, dict(line.puts))
        if len(line.terms) > 0:
            return line.formula == self.choice_formula(line)
        return self.is_granted_by_itself(line)

    def choice_formula(self, line):
        """The formula of a demand, least or zero line."""
        if line.reason == "demand":
            return demand_formula(self.book, line.terms[0], line.terms[1])
        if line.reason == "least":
            return least_formula(self.book, line.terms[0], line.terms[1])
        return zero_formula(self.book, line.terms[0])


def first_wrong_line(library, derivation):
    """The number of the first wrong line, or 0 if the derivation is accepted."""
    if library.book.text != derivation.book.text:
        raise WrongBook()
    examination = Examination(library, derivation)
    for number in range(1, len(derivation.lines) + 1):
        if number == examination.frames.bad_line or not examination.is_right(number):
            return number
    return 0


def is_accepted(library, derivation):
    """True if all lines of a derivation are right."""
    return first_wrong_line(library, derivation) == 0


def put_in_derivation(derivation, terms):
    """A derivation without fact lines with terms put for names."""
    for number, line in enumerate(derivation.lines, start=1):
        if line.reason == "fact":
            raise HasFact(number)
    check_names(terms)
    for term in terms.values():
        derivation.book.fits(term)
    return Derivation(derivation.book, [put_in_line(derivation.book, line, terms) for line in derivation.lines])

"""Derivations without choices: points 57 to 59."""

from rightatlast.books import body_at
from rightatlast.checker import first_wrong_line
from rightatlast.demands import Demand
from rightatlast.derivations import Derivation
from rightatlast.errors import NoChoice, NotSimple, TooLarge, TooWide, WrongLine
from rightatlast.formulas import Formula
from rightatlast.library import Library
from rightatlast.lines import MOST_DEPTH, MOST_LINES, Line
from rightatlast.listing import once_by_text
from rightatlast.pieces import choice_terms, members_of
from rightatlast.putting import put_choice
from rightatlast.tasks import MOST_CHOICE_TERMS
from rightatlast.terms import Term

MOST_CASES = 64
BAD_REASONS = ("least", "fact")


def _listed(derivation):
    """The tuple of the choice terms of a derivation."""
    things = []
    for line in derivation.lines:
        things.extend([line.formula, *line.terms])
        things.extend([term for _, term in line.puts])
    return choice_terms(things)


def _last_of(book, found):
    """The last one of some choice terms whose choice is upper, or, if there is none, the last one of all."""
    upper = [term for term in found if book.choice_of(term.name).upper]
    return upper[-1] if len(upper) > 0 else found[-1]


def next_choice(derivation):
    """The choice term that is taken out next, or None."""
    found = _listed(derivation)
    return _last_of(derivation.book, found) if len(found) > 0 else None


def _put(thing, old, new):
    """A term or formula with one term put for a choice term."""
    # A text that does not contain another one has no piece with this text.
    return put_choice(thing, old, new) if old.text in thing.text else thing


def _trials_of(derivation, old):
    """The tuple of the trial terms of a choice term."""
    by_terms = [line.terms[1] for line in derivation.lines if line.reason == "demand" and line.terms[0] == old]
    return once_by_text([_put(term, old, Term.of_number(0)) for term in by_terms])


def trial_terms(derivation):
    """The tuple of the trial terms of the choice term that is taken out next."""
    old = next_choice(derivation)
    if old is None:
        raise NoChoice()
    return _trials_of(derivation, old)


class TakingOut:
    """Takes a choice term out of a derivation: the lines of the copies, one behind another."""

    def __init__(self, derivation, old):
        self.book = derivation.book
        self.lines = derivation.lines
        self.old = old
        self.trials = _trials_of(derivation, old)
        self.denials = {}
        self.made_lines = []

    def body_for(self, term):
        """The body of the choice at the parts of the choice term and at another term."""
        return body_at(self.book.choice_of(self.old.name), list(self.old.parts), term)

    def add_line(self, depth, formula, reason, cited=(), terms=()):
        """Adds a line and returns its number."""
        if depth > MOST_DEPTH or len(self.made_lines) == MOST_LINES:
            raise TooLarge()
        if len(terms) > 0:
            # A demand that is too large refuses itself; a `zero` line has the demand of its head by its head.
            Demand(self.book, terms[0], terms[-1])
        self.made_lines.append(Line(depth, formula, reason, cited, terms))
        return len(self.made_lines)

    def add_headed(self, line, depth, formula, case_line):
        """Adds what a demand or zero line whose head is the choice term becomes, and returns the last number.

        In the copy for 0 the case line is 0.
        """
        if line.reason == "zero" and case_line == 0:
            zero = Term.of_number(0)
            same = self.add_line(depth, Formula.same(zero, zero), "order")
            return self.add_line(depth, formula, "among", (same,))
        if line.reason == "zero":
            return self.add_line(depth, formula, "among", (case_line,))
        cited = case_line
        if cited == 0:
            cited = self.denials[_put(line.terms[1], self.old, Term.of_number(0)).text]
        return self.add_line(depth, formula, "follows", (cited,))

    def add_copy(self, term, deeper, case_line):
        """Adds the copy for a term some boxes deeper, and returns the number of its last line."""
        places = [0]
        for line in self.lines:
            formula = _put(line.formula, self.old, term)
            depth = line.depth + deeper
            if len(line.terms) > 0 and line.terms[0] == self.old:
                places.append(self.add_headed(line, depth, formula, case_line))
            else:
                cited = [places[number] for number in line.numbers]
                terms = [_put(inner, self.old, term) for inner in line.terms]
                places.append(self.add_line(depth, formula, line.reason, cited, terms))
        return places[-1]

    def common_claim(self):
        """The pair of the claim of all copies and of True if each of them needs one line more for it."""
        terms = [*self.trials, Term.of_number(0)]
        claims = [_put(self.lines[-1].formula, self.old, term) for term in terms]
        if len(once_by_text(claims)) == 1:
            return (claims[0], False)
        members = once_by_text([member for claim in claims for member in members_of(claim)])
        joined = members[-1]
        for member in members[-2::-1]:
            joined = member | joined
        return (joined, True)

    def add_case(self, term, deeper, case_line, claim, joining):
        """Adds the copy for a term and, if it is asked for, the line with the joined claim."""
        last = self.add_copy(term, deeper, case_line)
        if joining:
            self.add_line(deeper, claim, "among", (last,))

    def take_out(self):
        """Adds all lines: the cases, the copy for 0 behind the denials, and the claims behind the boxes."""
        claim, joining = self.common_claim()
        boxes = []
        for deeper, term in enumerate(self.trials, start=1):
            body = self.body_for(term)
            case_line = self.add_line(deeper, body, "assume")
            self.add_case(term, deeper, case_line, claim, joining)
            self.denials[term.text] = self.add_line(deeper, ~body, "assume")
            boxes.append((case_line, self.denials[term.text]))
        self.add_case(Term.of_number(0), len(boxes), 0, claim, joining)
        for deeper in range(len(boxes) - 1, -1, -1):
            self.add_line(deeper, claim, "cases", boxes[deeper])
        return Derivation(self.book, self.made_lines)


def _check_accepted(derivation):
    """Raises an error unless a derivation is simple and accepted without facts."""
    for number, line in enumerate(derivation.lines, start=1):
        if line.reason in BAD_REASONS:
            raise NotSimple(number)
    wrong = first_wrong_line(Library(derivation.book), derivation)
    if wrong > 0:
        raise WrongLine(wrong)


def taken_out(derivation):
    """The derivation without the choice term that is taken out next."""
    _check_accepted(derivation)
    old = next_choice(derivation)
    if old is None:
        raise NoChoice()
    taking = TakingOut(derivation, old)
    if len(taking.trials) + 1 > MOST_CASES:
        raise TooWide()
    return taking.take_out()


def without_choices(derivation):
    """The derivation without choices that an accepted simple derivation becomes."""
    _check_accepted(derivation)
    cases = 1
    found = _listed(derivation)
    while len(found) > 0:
        taking = TakingOut(derivation, _last_of(derivation.book, found))
        cases = cases * (len(taking.trials) + 1)
        if cases > MOST_CASES or len(found) > MOST_CHOICE_TERMS:
            raise TooWide()
        derivation = taking.take_out()
        found = _listed(derivation)
    return derivation

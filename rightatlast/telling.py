"""Telling a formula with quantifiers as a plain one, in a book that may grow: points 54 and 55."""

from rightatlast.books import MOST_BODY_ATOMS, MOST_BODY_SIZE
from rightatlast.errors import HasLetters, TooDeep, TooLarge, TooWide
from rightatlast.formulas import QUANTIFIERS, Formula
from rightatlast.pieces import atoms_of, choice_terms
from rightatlast.putting import put_letters
from rightatlast.shapes import holes_of, shape_of
from rightatlast.terms import Term
from rightatlast.words import SMALL

FIRST_SIGNS = "CD"


class Told:
    """What a formula is told as: a book and a plain formula.

    If the formula had a quantifier in front, `term` is the choice term that
    stands for the letter of this quantifier; otherwise it is None.
    """

    def __init__(self, book, formula, term):
        self.book = book
        self.formula = formula
        self.term = term


def _body_for(book, kind, part, letter):
    """The body of the choice that stands for the letter of a quantifier in front of a told formula."""
    shape = shape_of(part, letter)
    if len(atoms_of([shape])) > MOST_BODY_ATOMS:
        raise TooWide()
    # No choice of the book has a body with an upper choice, so that a new row would be needed for one.
    if any([book.choice_of(term.name).upper for term in choice_terms([shape])]):
        raise TooDeep()
    return shape if kind == "some" else ~shape


def _first_free_name(book):
    """The first name of the list Ca, Cb, .., Dz that a book does not declare."""
    taken = [choice.name for choice in book.choices]
    names = [f"{first}{second}" for first in FIRST_SIGNS for second in SMALL]
    return [name for name in names if name not in taken][0]


def _with_choice(book, count, body):
    """The pair of a book, perhaps with one more row, and of the name of its first choice with this count and body."""
    for choice in book.choices:
        if choice.count == count and choice.body == body:
            return (book, choice.name)
    if body.size > MOST_BODY_SIZE:
        raise TooLarge()
    name = _first_free_name(book)
    return (book.extended(name, count, body), name)


def told_in(book, formula):
    """What a formula is told as in a book that it fits. It may have free letters, which stay."""
    if not formula.quantified:
        return Told(book, formula, None)
    found = []
    for part in formula.parts:
        told = told_in(book, part)
        book = told.book
        found.append(told.formula)
    if formula.kind not in QUANTIFIERS:
        return Told(book, Formula(formula.kind, formula.name, (), found), None)
    letter = formula.name
    body = _body_for(book, formula.kind, found[0], letter)
    holes = holes_of(found[0], letter)
    book, name = _with_choice(book, len(holes), body)
    term = Term.of_choice(name, *holes)
    return Told(book, put_letters(found[0], {letter: term}), term)


def tell_formula(book, formula):
    """What a formula without free letters is told as in a book."""
    if len(formula.letters) > 0:
        raise HasLetters(formula.letters[0])
    book.fits(formula)
    return told_in(book, formula)

"""Holes and shapes of formulas under a letter: point 54."""

from rightatlast.errors import BadWord, NotPlain, TooWide
from rightatlast.formulas import Formula
from rightatlast.pieces import inner_things
from rightatlast.terms import Term
from rightatlast.words import is_letter

MOST_HOLES = 6


def _holes_in(thing, letter):
    """The list of the holes in a term or formula, from left to right."""
    if isinstance(thing, Term) and letter not in thing.letters:
        return [thing]
    return [hole for inner in inner_things(thing) for hole in _holes_in(inner, letter)]


def _shaped_term(term, letter, found):
    """A term with the parameters put for its holes, which are added to a list, and y0 for the letter."""
    if letter not in term.letters:
        found.append(term)
        return Term.of_letter(f"p{len(found)}")
    if term.kind == "letter":
        return Term.of_letter("y0")
    parts = [_shaped_term(part, letter, found) for part in term.parts]
    return Term(term.kind, term.name, term.number, parts)


def _shaped_formula(formula, letter, found):
    """A formula with the same done."""
    terms = [_shaped_term(term, letter, found) for term in formula.terms]
    parts = [_shaped_formula(part, letter, found) for part in formula.parts]
    return Formula(formula.kind, formula.name, terms, parts)


def holes_of(formula, letter):
    """The tuple of the holes of a formula under a letter."""
    if formula.quantified:
        raise NotPlain()
    if not is_letter(letter):
        raise BadWord(letter)
    return tuple(_holes_in(formula, letter))


def shape_of(formula, letter):
    """The shape of a formula under a letter."""
    if len(holes_of(formula, letter)) > MOST_HOLES:
        raise TooWide()
    return _shaped_formula(formula, letter, [])

"""Candidates and demands of a claim of relations: point 61."""

from rightatlast.errors import HasChoices, NotRelational, TooWide
from rightatlast.pieces import choice_terms
from rightatlast.relations import is_relational
from rightatlast.telling import told_in
from rightatlast.terms import Term

MOST_CANDIDATES = 10


def told_claim(book, claim):
    """What a claim of relations is told as, after all that is passed has been examined."""
    if len(book.choices) > 0:
        raise HasChoices()
    if not is_relational(claim):
        raise NotRelational()
    book.fits(claim)
    return told_in(book, claim)


def candidates_among(claim, told):
    """The tuple of the candidates of a claim that is told in this way."""
    names = [Term.of_name(name) for name in claim.names]
    found = (*names, *choice_terms([told.formula]))
    if len(found) > MOST_CANDIDATES:
        raise TooWide()
    return found


def demand_pairs(candidates):
    """The list of the pairs of the heads and by-terms of the demands that belong to some candidates."""
    heads = [term for term in candidates if term.kind == "choice"]
    return [(head, by) for head in heads for by in candidates if by.text != head.text]


def candidates_of(book, claim):
    """The tuple of the candidates of a claim."""
    return candidates_among(claim, told_claim(book, claim))


def demands_for(book, claim):
    """The tuple of the texts of the demands of a claim."""
    return tuple([f"{head.text} by {by.text}" for head, by in demand_pairs(candidates_of(book, claim))])

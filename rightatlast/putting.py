"""Putting terms for words: point 9."""

from rightatlast.errors import BadWord, HasLetters
from rightatlast.formulas import QUANTIFIERS, Formula
from rightatlast.terms import Term
from rightatlast.words import is_letter, is_name


def _put_in_term(term, table):
    """A term with each piece whose text is a key of a table replaced by the term that stands there.

    A piece is looked up before its parts are replaced, so that nothing is
    replaced that only putting makes equal to a key.
    """
    if term.text in table:
        return table[term.text]
    if len(term.parts) == 0:
        return term
    parts = [_put_in_term(part, table) for part in term.parts]
    if term.kind == "sum":
        return parts[0] + term.number
    return Term(term.kind, term.name, term.number, parts)


def _put_in_formula(formula, table):
    """A formula with the same done at all places at which a key is not a bound letter."""
    if formula.kind in QUANTIFIERS:
        table = {text: table[text] for text in table if text != formula.name}
    terms = [_put_in_term(term, table) for term in formula.terms]
    parts = [_put_in_formula(part, table) for part in formula.parts]
    return Formula(formula.kind, formula.name, terms, parts)


def _put(thing, table):
    """A term or formula with the same done."""
    if isinstance(thing, Formula):
        return _put_in_formula(thing, table)
    return _put_in_term(thing, table)


def _check_without_letters(terms):
    """Raises HasLetters for the first letter of the first term of a list that has one."""
    for term in terms:
        if len(term.letters) > 0:
            raise HasLetters(term.letters[0])


def check_names(terms):
    """Raises an error unless the keys of a dict are names and its terms have no letters."""
    for word in terms:
        if not is_name(word):
            raise BadWord(word)
    _check_without_letters(list(terms.values()))


def put_names(thing, terms):
    """A term or formula with terms put for names, all at once."""
    check_names(terms)
    return _put(thing, terms)


def put_letters(thing, terms):
    """A term or formula with terms put for the free places of letters, all at once."""
    for word in terms:
        if not is_letter(word):
            raise BadWord(word)
    if isinstance(thing, Formula) and thing.quantified:
        _check_without_letters(list(terms.values()))
    return _put(thing, terms)


def put_choice(thing, old, new):
    """A term or formula with one term put for a choice term at all its places."""
    if old.kind != "choice":
        raise BadWord(old.text)
    _check_without_letters([old, new])
    return _put(thing, {old.text: new})

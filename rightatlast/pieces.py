"""Choice terms, atoms, members and words of formulas: points 10, 13 and 38."""

from rightatlast.formulas import QUANTIFIERS, Formula
from rightatlast.listing import once_by_text


def inner_things(thing):
    """The terms and formulas that a term or formula is directly made of, from left to right."""
    return thing.terms + thing.parts if isinstance(thing, Formula) else thing.parts


def _all_choice_terms(thing):
    """The list of the choice terms in a term or formula, each behind its parts."""
    found = []
    for inner in inner_things(thing):
        found.extend(_all_choice_terms(inner))
    if thing.kind == "choice":
        found.append(thing)
    return found


def choice_terms(things):
    """The different choice terms of a list of terms and formulas."""
    return once_by_text([term for thing in things for term in _all_choice_terms(thing)])


def _all_atoms(formula):
    """The list of the atoms of a formula, from left to right."""
    if len(formula.parts) == 0 or formula.kind in QUANTIFIERS:
        return [formula]
    return [atom for part in formula.parts for atom in _all_atoms(part)]


def atoms_of(formulas):
    """The different atoms of a list of formulas."""
    return once_by_text([atom for formula in formulas for atom in _all_atoms(formula)])


def _all_members(formula):
    """The list of the members of a formula, from left to right."""
    if formula.kind != "or":
        return [formula]
    return [member for part in formula.parts for member in _all_members(part)]


def members_of(formula):
    """The different members of a formula."""
    return once_by_text(_all_members(formula))


def declared_words(thing):
    """The pairs of each function, relation and choice in a term or formula and its number of parts, by the text."""
    inner = inner_things(thing)
    found = [(thing.name, len(inner))] if thing.kind in ("function", "choice", "holds") else []
    for part in inner:
        found.extend(declared_words(part))
    return found

"""Swaps: point 41."""

from rightatlast.errors import TooLarge
from rightatlast.formulas import QUANTIFIERS

MOST_ADDED = 9


def _swapped_pairs(left, right):
    """The list of the pairs of texts of the two terms with the same number added, in both directions."""
    pairs = []
    for number in range(MOST_ADDED + 1):
        try:
            first = left + number
            second = right + number
        except TooLarge:
            continue
        pairs.extend([(first.text, second.text), (second.text, first.text)])
    return pairs


def _agree(term, other, pairs):
    """True if two terms agree, where the terms of each of the pairs agree."""
    if term.text == other.text or (term.text, other.text) in pairs:
        return True
    if term.kind not in ("function", "sum"):
        return False
    if (term.kind, term.name, term.number, len(term.parts)) != (other.kind, other.name, other.number, len(other.parts)):
        return False
    return all([_agree(part, second, pairs) for part, second in zip(term.parts, other.parts)])


def _is_swap(formula, other, pairs):
    """True if a formula is a swap of another one, where the terms of each of the pairs agree."""
    if formula.kind in QUANTIFIERS:
        return formula.text == other.text
    if (formula.kind, formula.name, len(formula.terms)) != (other.kind, other.name, len(other.terms)):
        return False
    if not all([_agree(term, second, pairs) for term, second in zip(formula.terms, other.terms)]):
        return False
    return all([_is_swap(part, second, pairs) for part, second in zip(formula.parts, other.parts)])


def is_swap(formula, other, left, right):
    """True if `formula` is a swap of `other` by the terms `left` and `right`."""
    return _is_swap(formula, other, _swapped_pairs(left, right))

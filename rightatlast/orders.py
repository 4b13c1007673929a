"""Validity in order: point 40."""

from rightatlast.errors import HasLetters, NotPlain, TooWide, UnknownName
from rightatlast.pieces import atoms_of
from rightatlast.truthtables import TruthTables, is_true_in

MOST_ATOMS = 4
# The text that stands for the number 0 in demands; no term has it.
ZERO = ""


def _cut(term):
    """The pair of the text of the opaque term of a side, or ZERO, and of the number that is added to it."""
    if term.kind == "number":
        return (ZERO, term.number)
    if term.kind == "sum":
        return (term.parts[0].text, term.number)
    return (term.text, 0)


def _opaque_terms(atoms):
    """The list of the texts of the different opaque terms of some atoms, where they occur first."""
    texts = [_cut(term)[0] for atom in atoms for term in atom.terms]
    found = {}
    for text in texts:
        if text != ZERO:
            found[text] = True
    return list(found)


def _at_most(left, right, less):
    """The demand `(x, y, k)`, that x - y is at most k, that one side is at most another one, or less by a number."""
    return (left[0], right[0], right[1] - left[1] - less)


def _choices_for(atom, truth):
    """The list of the lists of demands of which one is met exactly if an atom has a truth."""
    left = _cut(atom.terms[0])
    right = _cut(atom.terms[1])
    if atom.kind == "most":
        return [[_at_most(left, right, 0)]] if truth else [[_at_most(right, left, 1)]]
    if truth:
        return [[_at_most(left, right, 0), _at_most(right, left, 0)]]
    return [[_at_most(left, right, 1)], [_at_most(right, left, 1)]]


def _all_choices(atoms, truths):
    """The list of the lists of demands of which one is met exactly if some atoms have some truths."""
    found = [[]]
    for atom, truth in zip(atoms, truths):
        found = [before + more for before in found for more in _choices_for(atom, truth)]
    return found


def _smallest_numbers(opaque, demands):
    """A dict from opaque terms to the smallest numbers that meet some demands, or None if none do.

    Each round raises what a demand forces to be larger. Without a closed chain
    that raises itself, each round but the last one settles one more number.
    """
    numbers = {text: 0 for text in [ZERO, *opaque]}
    for _ in range(len(numbers)):
        short = [demand for demand in demands if numbers[demand[0]] - numbers[demand[1]] > demand[2]]
        if len(short) == 0:
            break
        for larger, raised, gap in short:
            numbers[raised] = max(numbers[raised], numbers[larger] - gap)
    else:
        return None
    return {text: numbers[text] for text in opaque} if numbers[ZERO] == 0 else None


def _numbers_for(atoms, truths):
    """A dict from the opaque terms of some atoms to numbers with which the atoms have some truths, or None."""
    opaque = _opaque_terms(atoms)
    for demands in _all_choices(atoms, truths):
        numbers = _smallest_numbers(opaque, demands)
        if numbers is not None:
            return numbers
    return None


def order_gap(formula):
    """None if a formula is valid in order, otherwise a dict from its opaque terms to numbers that make it false."""
    if formula.quantified:
        raise NotPlain()
    if len(formula.letters) > 0:
        raise HasLetters(formula.letters[0])
    atoms = atoms_of([formula])
    if len(atoms) > MOST_ATOMS:
        raise TooWide()
    for atom in atoms:
        if atom.kind == "holds":
            raise UnknownName(atom.name)
    tables = TruthTables(atoms)
    table = tables.table_of(formula)
    for way in range(tables.ways):
        if not is_true_in(table, way):
            truths = [is_true_in(tables.of_atoms[atom.text], way) for atom in atoms]
            numbers = _numbers_for(atoms, truths)
            if numbers is not None:
                return numbers
    return None

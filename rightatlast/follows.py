"""What follows from formulas: point 39."""

from rightatlast.pieces import atoms_of
from rightatlast.truthtables import TruthTables

MOST_ATOMS = 10


def entails(formulas, formula):
    """True if a formula follows from a list of formulas."""
    atoms = atoms_of([*formulas, formula])
    if len(atoms) > MOST_ATOMS:
        return False
    tables = TruthTables(atoms)
    remaining = tables.always
    for one in formulas:
        remaining = remaining & tables.table_of(one)
    return remaining & tables.table_of(formula) == remaining

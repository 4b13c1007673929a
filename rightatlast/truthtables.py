"""Truth tables: the truth of formulas for each way to give their atoms True or False."""

from rightatlast.formulas import QUANTIFIERS


def is_true_in(table, way):
    """True if a table has True in the way with a number."""
    return (table >> way) & 1 == 1


class TruthTables:
    """The truth tables over some atoms.

    A table is an integer: each way to give the atoms True or False has a
    number, and the bit with this number is 1 where the formula is True. So a
    formula is gone through once, and not once for each way.
    """

    def __init__(self, atoms):
        self.ways = 1
        self.of_atoms = {}
        for atom in atoms:
            # Each way becomes two: a first one with the new atom False, and a second one with it True.
            self.of_atoms = {text: old | (old << self.ways) for text, old in self.of_atoms.items()}
            self.of_atoms[atom.text] = ((1 << self.ways) - 1) << self.ways
            self.ways = 2 * self.ways
        self.always = (1 << self.ways) - 1

    def table_of(self, formula):
        """The table of a formula."""
        if len(formula.parts) == 0 or formula.kind in QUANTIFIERS:
            return self.of_atoms[formula.text]
        tables = [self.table_of(part) for part in formula.parts]
        if formula.kind == "not":
            return self.always ^ tables[0]
        if formula.kind == "and":
            return tables[0] & tables[1]
        if formula.kind == "or":
            return tables[0] | tables[1]
        return (self.always ^ tables[0]) | tables[1]

"""Settling claims of relations: point 62."""

from rightatlast.candidates import candidates_among, demand_pairs, told_claim
from rightatlast.demands import Demand
from rightatlast.derivations import Derivation
from rightatlast.errors import TooWide
from rightatlast.lines import Line
from rightatlast.pieces import atoms_of
from rightatlast.truthtables import TruthTables, is_true_in
from rightatlast.worlds import World

MOST_ATOMS = 8


class Settled:
    """What a claim is settled by: a derivation, or a world and inputs in which it does not hold."""

    def __init__(self, derivation, world, inputs):
        self.derivation = derivation
        self.world = world
        self.inputs = inputs


class Prover:
    """Shows a told claim that follows from the formulas of some demands.

    Behind the lines of the demands, one atom after another is assumed and
    denied, until the claim follows from what is assumed, perhaps with one
    demand. With 8 atoms there are at most 256 cases, shown by 1,021 lines.
    """

    def __init__(self, claim, demands, tables, atoms):
        self.claim = claim
        self.demands = demands
        self.tables = tables
        self.atoms = atoms
        self.used = {}
        self.shown_lines = [Line(0, one.formula, "demand", (), (one.head, one.by)) for one in demands]

    def premises_for(self, assumed):
        """None if the claim does not follow from formulas with a joint table and at most one demand.

        Otherwise the list of the number of this demand, or of no number.
        """
        denied = assumed & (self.tables.always ^ self.tables.table_of(self.claim))
        if denied == 0:
            return []
        for number, demand in enumerate(self.demands, start=1):
            if denied & self.tables.table_of(demand.formula) == 0:
                return [number]
        return None

    def show(self, assumed, openings):
        """Adds the lines that show the claim, where the first atoms are assumed or denied by the lines with numbers."""
        depth = len(openings)
        premises = self.premises_for(assumed)
        if premises is not None:
            for number in premises:
                self.used[number] = True
            self.shown_lines.append(Line(depth, self.claim, "follows", openings + premises))
            return
        atom = self.atoms[depth]
        table = self.tables.table_of(atom)
        boxes = []
        for formula, part in ((atom, table), (~atom, self.tables.always ^ table)):
            self.shown_lines.append(Line(depth + 1, formula, "assume"))
            boxes.append(len(self.shown_lines))
            self.show(assumed & part, [*openings, boxes[-1]])
        self.shown_lines.append(Line(depth, self.claim, "cases", boxes))


def _derivation_of(told, demands, tables, atoms):
    """The derivation of a told claim that follows from the formulas of some demands, with the demands that it needs."""
    first = Prover(told.formula, demands, tables, atoms)
    first.show(tables.always, [])
    needed = [demand for number, demand in enumerate(demands, start=1) if number in first.used]
    second = Prover(told.formula, needed, tables, atoms)
    second.show(tables.always, [])
    return Derivation(told.book, second.shown_lines)


def _empty_world(book, top):
    """The world with a top in which all values are 0 and all relations are False."""
    rows = [f"top {top}"]
    for _, name, count in book.tables:
        places = top + 1 if count == 1 else (top + 1) * (top + 1)
        rows.append(" ".join([name] + ["0"] * places))
    return World.read(book, "\n".join(rows))


def _refuted(book, candidates, atoms, truths):
    """The world and inputs in which each candidate stands for its place and some atoms have some truths."""
    places = {term.text: place for place, term in enumerate(candidates)}
    world = _empty_world(book, len(candidates) - 1)
    for atom, truth in zip(atoms, truths):
        world = world.changed(atom.name, tuple([places[term.text] for term in atom.terms]), truth)
    names = sorted([term.name for term in candidates if term.kind == "name"])
    return Settled(None, world, tuple([(name, places[name]) for name in names]))


def settle(book, claim):
    """What a claim of relations is settled by."""
    told = told_claim(book, claim)
    candidates = candidates_among(claim, told)
    demands = [Demand(told.book, head, by) for head, by in demand_pairs(candidates)]
    atoms = atoms_of([told.formula] + [demand.formula for demand in demands])
    if len(atoms) > MOST_ATOMS:
        raise TooWide()
    tables = TruthTables(atoms)
    against = tables.always ^ tables.table_of(told.formula)
    for demand in demands:
        against = against & tables.table_of(demand.formula)
    if against == 0:
        return Settled(_derivation_of(told, demands, tables, atoms), None, None)
    # The highest bit that is left is a way in which all demands are true and the claim is not.
    way = against.bit_length() - 1
    truths = [is_true_in(tables.of_atoms[atom.text], way) for atom in atoms]
    return _refuted(book, candidates, atoms, truths)

"""Tasks: points 22 and 23."""

from rightatlast.demands import Demand
from rightatlast.errors import BadDemand, RightatlastError, TooLarge, TooWide, WrongBook
from rightatlast.inputs import check_given, check_inputs
from rightatlast.pieces import choice_terms
from rightatlast.scenes import Scene

MOST_DEMANDS = 60
MOST_CHOICE_TERMS = 40


def _read_demands(book, rows):
    """The list of the demands of a list of texts."""
    demands = []
    for row, text in enumerate(rows, start=1):
        try:
            demands.append(Demand.read(book, text))
        except RightatlastError:
            raise BadDemand(row) from None
    return demands


def choice_terms_of(demands):
    """The tuple of the different choice terms of the heads, by-terms and formulas of some demands."""
    return choice_terms([thing for demand in demands for thing in (demand.head, demand.by, demand.formula)])


class Task:
    """A book, a world for it, inputs, and demands."""

    def __init__(self, book, world, inputs, rows):
        if world.book.text != book.text:
            raise WrongBook()
        check_inputs(inputs)
        if len(rows) > MOST_DEMANDS:
            raise TooLarge()
        demands = _read_demands(book, rows)
        for demand in demands:
            check_given(demand.head.names + demand.by.names, inputs)
        if len(choice_terms_of(demands)) > MOST_CHOICE_TERMS:
            raise TooWide()
        self.book = book
        self.world = world
        self.inputs = tuple([(name, inputs[name]) for name in sorted(list(inputs))])
        self.demands = tuple(demands)

    def scene(self, table):
        """The scene of this task for a dict from keys to guesses."""
        return Scene(self.world, dict(self.inputs), table)

    def false_ones(self, guesses):
        """The tuple of the numbers of the false demands."""
        scene = self.scene(guesses.as_table())
        truths = [scene.truth_for(demand.formula) for demand in self.demands]
        return tuple([number for number, truth in enumerate(truths, start=1) if not truth])

    def stands(self, guesses):
        """True if all demands are true."""
        return len(self.false_ones(guesses)) == 0

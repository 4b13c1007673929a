"""Runs of derivations, and their answers: point 46."""

from rightatlast.climbing import climb
from rightatlast.errors import WrongBook
from rightatlast.inputs import check_given, check_inputs
from rightatlast.listing import once
from rightatlast.pieces import choice_terms
from rightatlast.tasks import Task
from rightatlast.unfolding import unfolded


class Run:
    """A run of a derivation that has come to its end."""

    def __init__(self, derivation, end, scene):
        self.derivation = derivation
        self.climb = end
        self.claim = derivation.claim
        self.truth = scene.truth_for(self.claim)
        self.answers = tuple([(term.text, scene.number_for(term)) for term in choice_terms([self.claim])])


def _names_of(lines):
    """The list of the names in some lines without puts: of each line those of its formula, then those of its terms."""
    return [name for line in lines for thing in (line.formula, *line.terms) for name in thing.names]


def demand_rows(lines):
    """The tuple of the texts of the demands of the demand lines among some lines, each once."""
    return once([f"{line.terms[0].text} by {line.terms[1].text}" for line in lines if line.reason == "demand"])


def run(library, derivation, world, inputs, *, picks=(), limit=1000):
    """The run of an accepted derivation in a world."""
    for book in (derivation.book, world.book):
        if book.text != library.book.text:
            raise WrongBook()
    told = unfolded(library, derivation)
    check_inputs(inputs)
    check_given(_names_of(told.lines), inputs)
    task = Task(told.book, world, inputs, list(demand_rows(told.lines)))
    end = climb(task, picks=picks, limit=limit)
    return Run(told, end, task.scene(end.guesses.as_table()))

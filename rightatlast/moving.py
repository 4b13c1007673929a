"""Lines that are changed and taken elsewhere: points 44 and 45."""

from rightatlast.demands import Demand
from rightatlast.errors import TooLarge
from rightatlast.lines import MOST_DEPTH, Line
from rightatlast.putting import put_names


def put_in_line(book, line, terms):
    """A line without puts of its own with terms put for names in its formula and in the terms of its reason."""
    formula = put_names(line.formula, terms)
    inner = [put_names(term, terms) for term in line.terms]
    if len(inner) > 0:
        # A demand that is too large refuses itself; a `zero` line has the demand of its head by its head.
        Demand(book, inner[0], inner[-1])
    return Line(line.depth, formula, line.reason, line.numbers, inner, line.name, line.puts)


def moved(line, deeper, places):
    """A line some boxes deeper, where a list tells the new number of each line that it may cite by its old number."""
    depth = line.depth + deeper
    if depth > MOST_DEPTH:
        raise TooLarge()
    numbers = [places[number] for number in line.numbers]
    return Line(depth, line.formula, line.reason, numbers, line.terms, line.name, line.puts)

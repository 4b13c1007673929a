"""Reading formulas: point 8."""

from rightatlast.building import built
from rightatlast.parsing import Parser


def read_formula(text):
    """The formula of a text."""
    parser = Parser(text)
    parser.parse_formula()
    parser.finish()
    return built(parser.steps)[0]

"""Reading terms: point 8."""

from rightatlast.building import built
from rightatlast.parsing import Parser


def read_term(text):
    """The term of a text."""
    parser = Parser(text)
    parser.parse_term()
    parser.finish()
    return built(parser.steps)[0]

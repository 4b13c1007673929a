"""Inputs: point 17."""

from rightatlast.errors import BadInput, MissingInput
from rightatlast.words import is_name

MOST_INPUT = 99


def check_inputs(inputs):
    """Raises BadInput for the first key of inputs that is not a name or whose number is too large."""
    for name in inputs:
        if not is_name(name) or inputs[name] > MOST_INPUT:
            raise BadInput(name)


def check_given(names, inputs):
    """Raises MissingInput for the first name of a list without an input."""
    for name in names:
        if name not in inputs:
            raise MissingInput(name)

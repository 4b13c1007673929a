"""Boxes of derivations: points 36 and 37."""

from rightatlast.errors import WrongLine
from rightatlast.frames import Frames


def frames_of(lines):
    """The boxes of some lines of a derivation."""
    return Frames([(line.depth, line.reason == "assume") for line in lines])


def _frames_up_to(derivation, number):
    """The boxes of the lines up to one, whose depths must be within their bounds."""
    frames = frames_of(derivation.lines[:number])
    if frames.bad_line > 0:
        raise WrongLine(frames.bad_line)
    return frames


def boxes_of(derivation, number):
    """The tuple of the numbers of the opening lines of the boxes that a line is within, the outermost one first."""
    return _frames_up_to(derivation, number).boxes[number]


def may_cite(derivation, number, cited):
    """True if line `number` may cite line `cited`."""
    return _frames_up_to(derivation, number).can_cite(number, cited)


def may_cite_box(derivation, number, opening):
    """True if line `number` may cite the box that line `opening` opens."""
    return _frames_up_to(derivation, number).can_cite_box(number, opening)

"""Boxes and names of spoken derivations: points 51 and 52."""

from rightatlast.errors import WrongLine
from rightatlast.frames import Frames

OPENING_REASONS = ("assume", "fresh")


def frames_of_spoken(lines):
    """The boxes of some lines of a spoken derivation."""
    return Frames([(line.depth, line.reason in OPENING_REASONS) for line in lines])


def usable_names(spoken, frames, number):
    """The dict from the names that a line may use to True, where the depths of all lines up to it are in bounds."""
    found = {name: True for name in spoken.inputs}
    for opening in frames.boxes[number]:
        if spoken.lines[opening - 1].reason == "fresh":
            found[spoken.lines[opening - 1].name] = True
    for place, line in enumerate(spoken.lines[:number], start=1):
        if line.reason == "take" and (place == number or frames.can_cite(number, place)):
            found[line.name] = True
    return found


def _frames_up_to(spoken, number):
    """The boxes of the lines up to one, whose depths must be within their bounds."""
    frames = frames_of_spoken(spoken.lines[:number])
    if frames.bad_line > 0:
        raise WrongLine(frames.bad_line)
    return frames


def names_at(spoken, number):
    """The tuple of the names that a line may use, in the order of strings."""
    frames = _frames_up_to(spoken, number)
    return tuple(sorted(list(usable_names(spoken, frames, number))))


def spoken_boxes(spoken, number):
    """The tuple of the numbers of the opening lines of the boxes that a line is within, the outermost one first."""
    return _frames_up_to(spoken, number).boxes[number]

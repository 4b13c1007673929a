"""Unfolding: point 44."""

from rightatlast.checker import first_wrong_line
from rightatlast.derivations import Derivation
from rightatlast.errors import TooLarge, WrongLine
from rightatlast.lines import MOST_LINES
from rightatlast.moving import moved, put_in_line


class Unfolder:
    """Replaces fact lines by the lines of the facts of a library; each fact is unfolded once."""

    def __init__(self, library, book):
        self.library = library
        self.book = book
        self.facts = {}

    def lines_of_fact(self, name):
        """The list of the lines of the unfolded derivation of a fact."""
        if name not in self.facts:
            self.facts[name] = self.unfold(self.library.fact(name).lines)
        return list(self.facts[name])

    def lines_instead_of(self, line, before):
        """The list of the lines that replace a fact line behind a number of lines."""
        terms = dict(line.puts)
        lines = [put_in_line(self.book, one, terms) for one in self.lines_of_fact(line.name)]
        places = [before + number for number in range(len(lines) + 1)]
        return [moved(one, line.depth, places) for one in lines]

    def unfold(self, lines):
        """The list of the lines that some lines become."""
        told = []
        # Line 0 is never cited. Each other line is now said by the last one of those that replace it.
        places = [0]
        for line in lines:
            if line.reason == "fact":
                told.extend(self.lines_instead_of(line, len(told)))
            else:
                told.append(moved(line, 0, places))
            places.append(len(told))
            if len(told) > MOST_LINES:
                raise TooLarge()
        return told


def unfolded(library, derivation):
    """An accepted derivation with each fact line replaced by what it stands for."""
    wrong = first_wrong_line(library, derivation)
    if wrong > 0:
        raise WrongLine(wrong)
    return Derivation(derivation.book, Unfolder(library, derivation.book).unfold(derivation.lines))

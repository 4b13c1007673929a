"""Derivations: point 35."""

from rightatlast.errors import BadRow, TooLarge
from rightatlast.lines import MOST_LINES, read_line
from rightatlast.rowtext import rows_of


class Derivation:
    """A list of lines for a book. `Derivation.read` makes derivations; the constructor leaves the lines unexamined."""

    def __init__(self, book, lines):
        self.book = book
        self.lines = tuple(lines)
        self.claim = self.lines[-1].formula
        self.text = "\n".join([line.text for line in lines])

    @classmethod
    def read(cls, book, text):
        """The derivation of a text, for a book."""
        rows = rows_of(text)
        if len(rows) > MOST_LINES:
            raise TooLarge()
        if len(rows) == 0:
            raise BadRow(1)
        return cls(book, [read_line(book, row, number) for number, row in enumerate(rows, start=1)])

    def __len__(self):
        return len(self.lines)

    def __iter__(self):
        return iter(self.lines)

    def __eq__(self, other):
        return isinstance(other, Derivation) and self.text == other.text

    def __str__(self):
        return str(self.text)

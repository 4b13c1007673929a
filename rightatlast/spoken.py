"""Spoken derivations: point 50."""

from rightatlast.errors import BadRow, BadWord, HasChoices, TooLarge
from rightatlast.rowtext import rows_of
from rightatlast.spokenlines import read_spoken_line
from rightatlast.words import is_name

MOST_INPUTS = 6
MOST_LINES = 200


class Spoken:
    """A list of spoken lines for a book without choices. `Spoken.read` makes them."""

    def __init__(self, book, inputs, lines):
        self.book = book
        self.inputs = tuple(inputs)
        self.lines = tuple(lines)
        self.claim = self.lines[-1].formula
        self.text = "\n".join([line.text for line in lines])

    @classmethod
    def read(cls, book, inputs, text):
        """The spoken derivation of a text, for a book and a list of names."""
        if len(book.choices) > 0:
            raise HasChoices()
        if len(inputs) > MOST_INPUTS:
            raise TooLarge()
        for place, word in enumerate(inputs):
            if not is_name(word) or word in inputs[:place]:
                raise BadWord(word)
        rows = rows_of(text)
        if len(rows) > MOST_LINES:
            raise TooLarge()
        if len(rows) == 0:
            raise BadRow(1)
        return cls(book, inputs, [read_spoken_line(book, row, number) for number, row in enumerate(rows, start=1)])

    def __len__(self):
        return len(self.lines)

    def __iter__(self):
        return iter(self.lines)

    def __eq__(self, other):
        if not isinstance(other, Spoken):
            return False
        return self.book == other.book and self.inputs == other.inputs and self.text == other.text

    def __str__(self):
        return str(self.text)

"""Demands: point 21."""

from rightatlast.books import body_at
from rightatlast.building import built
from rightatlast.errors import BadWord, HasLetters, TooLarge
from rightatlast.parsing import Parser

MOST_CHARACTERS = 1000


def read_head_and_by(text):
    """The pair of the head and the by-term of the text of a demand."""
    parser = Parser(text)
    parser.parse_demand()
    parser.finish()
    head, by = built(parser.steps)
    return (head, by)


class Demand:
    """A demand: if the body of a choice holds at the by-term, it holds at the head."""

    def __init__(self, book, head, by):
        if head.kind != "choice":
            raise BadWord(head.text)
        for term in (head, by):
            if len(term.letters) > 0:
                raise HasLetters(term.letters[0])
        book.fits(head)
        book.fits(by)
        self.choice = book.choice_of(head.name)
        self.head = head
        self.by = by
        self.text = f"{head.text} by {by.text}"
        if len(self.text) > MOST_CHARACTERS:
            raise TooLarge()
        self.test = body_at(self.choice, list(head.parts), by)
        self.goal = body_at(self.choice, list(head.parts), head)
        self.formula = self.test >> self.goal

    @classmethod
    def read(cls, book, text):
        """The demand of a text, for a book."""
        head, by = read_head_and_by(text)
        return cls(book, head, by)

    def __eq__(self, other):
        return isinstance(other, Demand) and self.text == other.text

    def __str__(self):
        return str(self.text)

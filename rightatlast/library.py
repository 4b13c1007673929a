"""Libraries of facts: point 43."""

from rightatlast.checker import first_wrong_line
from rightatlast.errors import BadWord, TakenName, TooLarge, UnknownName, WrongLine
from rightatlast.words import is_name

MOST_FACTS = 30


class Library:
    """Facts for a book. Each fact uses earlier facts only."""

    def __init__(self, book):
        self.book = book
        self.names = ()
        self._facts = {}

    def added(self, name, derivation):
        """The library with one more fact."""
        if not is_name(name):
            raise BadWord(name)
        if name in self._facts:
            raise TakenName(0)
        if len(self.names) == MOST_FACTS:
            raise TooLarge()
        wrong = first_wrong_line(self, derivation)
        if wrong > 0:
            raise WrongLine(wrong)
        grown = Library(self.book)
        grown.names = (*self.names, name)
        grown._facts = {**self._facts, name: derivation}
        return grown

    def fact(self, name):
        """The derivation of a fact."""
        if name not in self._facts:
            raise UnknownName(name)
        return self._facts[name]

    def __contains__(self, name):
        return name in self._facts

"""Terms: points 5 and 6."""

from rightatlast.errors import BadCount, BadWord, TooLarge
from rightatlast.listing import once
from rightatlast.words import is_choice, is_letter, is_name

MOST_NUMBER = 99
MOST_ADDEND = 9
MOST_CHOICE_PARTS = 6
MOST_SIZE = 100
MOST_DEPTH = 20
MOST_CHARACTERS = 1000


def _text_of(kind, name, number, parts):
    """The text of a term with these fields."""
    if kind == "number":
        return str(number)
    if kind == "sum":
        return f"{parts[0].text} + {number}"
    if len(parts) == 0:
        return name
    inner = ", ".join([part.text for part in parts])
    return f"{name}({inner})"


class Term:
    """A term. The class methods and `+` make terms; the constructor leaves words and counts unexamined."""

    def __init__(self, kind, name, number, parts):
        self.kind = kind
        self.name = name
        self.number = number
        self.parts = tuple(parts)
        self.text = _text_of(kind, name, number, parts)
        self.size = 1 + sum([part.size for part in parts])
        self.depth = 1 + max([part.depth for part in parts], default=0)
        letters = [name] if kind == "letter" else [word for part in parts for word in part.letters]
        self.letters = once(letters)
        names = [name] if kind == "name" else [word for part in parts for word in part.names]
        self.names = once(names)
        if self.size > MOST_SIZE or self.depth > MOST_DEPTH or len(self.text) > MOST_CHARACTERS:
            raise TooLarge()

    @classmethod
    def of_number(cls, number):
        """A written number."""
        if number > MOST_NUMBER:
            raise TooLarge()
        return cls("number", "", number, ())

    @classmethod
    def of_name(cls, word):
        """A name."""
        if not is_name(word):
            raise BadWord(word)
        return cls("name", word, 0, ())

    @classmethod
    def of_letter(cls, word):
        """A letter."""
        if not is_letter(word):
            raise BadWord(word)
        return cls("letter", word, 0, ())

    @classmethod
    def of_function(cls, name, *parts):
        """A function of one or two terms."""
        if not is_name(name):
            raise BadWord(name)
        if len(parts) not in (1, 2):
            raise BadCount(name)
        return cls("function", name, 0, parts)

    @classmethod
    def of_choice(cls, name, *parts):
        """A choice term."""
        if not is_choice(name):
            raise BadWord(name)
        if len(parts) > MOST_CHOICE_PARTS:
            raise BadCount(name)
        return cls("choice", name, 0, parts)

    def __add__(self, number):
        if number > MOST_ADDEND:
            raise TooLarge()
        if number == 0:
            return self
        if self.kind == "number":
            return Term.of_number(self.number + number)
        if self.kind != "sum":
            return Term("sum", "", number, (self,))
        if self.number + number > MOST_ADDEND:
            raise TooLarge()
        return Term("sum", "", self.number + number, self.parts)

    def __eq__(self, other):
        return isinstance(other, Term) and self.text == other.text

    def __str__(self):
        return str(self.text)

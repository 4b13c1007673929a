"""Formulas: point 7."""

from rightatlast.errors import BadCount, BadLetter, BadWord, TooLarge
from rightatlast.listing import once
from rightatlast.words import is_letter, is_relation

SIGNS = {"same": "=", "most": "<="}
JOINTS = {"and": "and", "or": "or", "if": "->"}
QUANTIFIERS = ("some", "every")
MOST_SIZE = 300
MOST_DEPTH = 20
MOST_CHARACTERS = 1000


def _text_of(kind, name, terms, parts):
    """The text of a formula with these fields."""
    if kind in SIGNS:
        return f"{terms[0].text} {SIGNS[kind]} {terms[1].text}"
    if kind in JOINTS:
        return f"({parts[0].text} {JOINTS[kind]} {parts[1].text})"
    if kind == "not":
        return f"not {parts[0].text}"
    if kind in QUANTIFIERS:
        return f"{kind} {name}: {parts[0].text}"
    inner = ", ".join([term.text for term in terms])
    return f"{name}({inner})"


def _binds(formula, letter):
    """True if a quantifier in a formula binds a letter."""
    if formula.kind in QUANTIFIERS and formula.name == letter:
        return True
    return any([_binds(part, letter) for part in formula.parts])


def _check_bound(letter, part):
    """Raises an error unless a quantifier in front of a formula can bind a letter."""
    if not is_letter(letter):
        raise BadWord(letter)
    if letter not in part.letters or _binds(part, letter):
        raise BadLetter(letter)


class Formula:
    """A formula. The class methods and operators make formulas; the constructor leaves words and counts unexamined."""

    def __init__(self, kind, name, terms, parts):
        self.kind = kind
        self.name = name
        self.terms = tuple(terms)
        self.parts = tuple(parts)
        self.text = _text_of(kind, name, terms, parts)
        inner = self.terms + self.parts
        self.size = 1 + sum([thing.size for thing in inner])
        self.depth = 1 + max([part.depth for part in parts], default=0)
        self.quantified = kind in QUANTIFIERS or any([part.quantified for part in parts])
        bound = [name] if kind in QUANTIFIERS else []
        self.letters = once([word for thing in inner for word in thing.letters if word not in bound])
        self.names = once([word for thing in inner for word in thing.names])
        if self.size > MOST_SIZE or self.depth > MOST_DEPTH or len(self.text) > MOST_CHARACTERS:
            raise TooLarge()

    @classmethod
    def same(cls, left, right):
        """`left = right`."""
        return cls("same", "", (left, right), ())

    @classmethod
    def most(cls, left, right):
        """`left <= right`."""
        return cls("most", "", (left, right), ())

    @classmethod
    def holds(cls, name, *terms):
        """A relation of one or two terms."""
        if not is_relation(name):
            raise BadWord(name)
        if len(terms) not in (1, 2):
            raise BadCount(name)
        return cls("holds", name, terms, ())

    @classmethod
    def some(cls, letter, part):
        """`some letter: part`."""
        _check_bound(letter, part)
        return cls("some", letter, (), (part,))

    @classmethod
    def every(cls, letter, part):
        """`every letter: part`."""
        _check_bound(letter, part)
        return cls("every", letter, (), (part,))

    def __invert__(self):
        return Formula("not", "", (), (self,))

    def __and__(self, other):
        return Formula("and", "", (), (self, other))

    def __or__(self, other):
        return Formula("or", "", (), (self, other))

    def __rshift__(self, other):
        return Formula("if", "", (), (self, other))

    def __eq__(self, other):
        return isinstance(other, Formula) and self.text == other.text

    def __str__(self):
        return str(self.text)

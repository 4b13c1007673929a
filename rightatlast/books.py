"""Books: points 11 to 14."""

from rightatlast.errors import BadBody, BadCount, BadRow, BadWord, RightatlastError, TakenName, TooLarge, Unfit
from rightatlast.errors import UnknownName
from rightatlast.formulatext import read_formula
from rightatlast.pieces import atoms_of, choice_terms, declared_words
from rightatlast.putting import put_letters
from rightatlast.rowtext import number_in, rows_of
from rightatlast.words import is_choice, is_name, is_relation

MOST_ROWS = 40
MOST_PARTS = 6
MOST_BODY_SIZE = 40
MOST_BODY_ATOMS = 5


class Choice:
    """A choice that a book declares."""

    def __init__(self, name, count, body):
        self.name = name
        self.count = count
        self.body = body
        self.upper = len(choice_terms([body])) > 0


def _read_pick(row):
    """The declaration that the row of a choice makes, or None if it has another form."""
    front, _, back = row.partition(": ")
    words = front.split(" ")
    if len(words) != 3 or words[0] != "pick" or not is_choice(words[1]):
        return None
    count = number_in(words[2], MOST_PARTS)
    if count is None:
        return None
    try:
        body = read_formula(back)
    except RightatlastError:
        return None
    return ("pick", words[1], count, Choice(words[1], count, body))


def _read_declaration(row):
    """The declaration `(word, name, count, choice)` that a row makes, or None if it has none of the three forms.

    The choice is None where none is declared.
    """
    if row.startswith("pick "):
        return _read_pick(row)
    words = row.split(" ")
    if len(words) != 3 or words[2] not in ("1", "2"):
        return None
    if (words[0] == "fun" and is_name(words[1])) or (words[0] == "rel" and is_relation(words[1])):
        return (words[0], words[1], int(words[2]), None)
    return None


def _declaration_text(word, name, count, choice):
    """The row of a declaration."""
    return f"{word} {name} {count}" if choice is None else f"{word} {name} {count}: {choice.body.text}"


def _body_letters(count):
    """The letters that may occur in the body of a choice with this number of parts: those of the parts, then y0."""
    return [f"p{number}" for number in range(1, count + 1)] + ["y0"]


def body_at(choice, parts, term):
    """The body of a choice at the terms of a list and at one more term."""
    if len(parts) != choice.count:
        raise BadCount(choice.name)
    terms = [*parts, term]
    return put_letters(choice.body, {word: put for word, put in zip(_body_letters(choice.count), terms)})


class Book:
    """A book. `Book.read` and `extended` make books; the constructor leaves the declarations unexamined."""

    def __init__(self, declarations):
        self._declarations = tuple(declarations)
        self.tables = tuple([row[:3] for row in declarations if row[0] != "pick"])
        self.functions = tuple([(name, count) for word, name, count in self.tables if word == "fun"])
        self.relations = tuple([(name, count) for word, name, count in self.tables if word == "rel"])
        self.choices = tuple([row[3] for row in declarations if row[0] == "pick"])
        self.upper_names = tuple([choice.name for choice in self.choices if choice.upper])
        self.text = "\n".join([_declaration_text(row[0], row[1], row[2], row[3]) for row in declarations])
        self._counts = {row[1]: row[2] for row in declarations}
        self._choices = {choice.name: choice for choice in self.choices}

    @classmethod
    def read(cls, text):
        """The book of a text."""
        rows = rows_of(text)
        if len(rows) > MOST_ROWS:
            raise TooLarge()
        book = cls(())
        for number, row in enumerate(rows, start=1):
            declaration = _read_declaration(row)
            if declaration is None:
                raise BadRow(number)
            book = book.grown(declaration)
        return book

    def grown(self, declaration):
        """The book with a declaration in one more row."""
        row = len(self._declarations) + 1
        if declaration[1] in self._counts:
            raise TakenName(row)
        if declaration[0] == "pick" and not self._can_declare(declaration[3]):
            raise BadBody(row)
        return Book(self._declarations + (declaration,))

    def _can_declare(self, choice):
        """True if the body of a choice may stand in one more row."""
        body = choice.body
        if body.quantified or len(body.names) > 0 or body.size > MOST_BODY_SIZE:
            return False
        letters = _body_letters(choice.count)
        if any([letter not in letters for letter in body.letters]) or len(atoms_of([body])) > MOST_BODY_ATOMS:
            return False
        if any([self._counts.get(name) != parts for name, parts in declared_words(body)]):
            return False
        return not any([self._choices[term.name].upper for term in choice_terms([body])])

    def choice_of(self, name):
        """The choice with a name."""
        if name not in self._choices:
            raise UnknownName(name)
        return self._choices[name]

    def fits(self, thing):
        """True, or an error with the first word of a term or formula that does not fit."""
        for name, count in declared_words(thing):
            if self._counts.get(name) != count:
                raise Unfit(name)
        return True

    def extended(self, name, count, body):
        """The book with a choice in one more row."""
        if not is_choice(name):
            raise BadWord(name)
        if count > MOST_PARTS:
            raise TooLarge()
        if len(self._declarations) >= MOST_ROWS:
            raise TooLarge()
        return self.grown(("pick", name, count, Choice(name, count, body)))

    def __eq__(self, other):
        return isinstance(other, Book) and self.text == other.text

    def __str__(self):
        return str(self.text)

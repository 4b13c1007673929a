"""The errors of the package."""


class RightatlastError(ValueError):
    """The base class of all errors of the package."""


class BadText(RightatlastError):
    """A text cannot be read."""

    def __init__(self, place):
        super().__init__(f"the text cannot be read at place {place}")
        self.place = place


class BadWord(RightatlastError):
    """A word is not of the kind that is asked for."""

    def __init__(self, word):
        super().__init__(f"another kind of word is asked for than {word!r}")
        self.word = word


class BadCount(RightatlastError):
    """A function, relation or choice has a wrong number of parts."""

    def __init__(self, name):
        super().__init__(f"{name} has a wrong number of parts")
        self.name = name


class BadLetter(RightatlastError):
    """A quantifier cannot bind a letter."""

    def __init__(self, letter):
        super().__init__(f"the letter {letter} cannot be bound here")
        self.letter = letter


class HasLetters(RightatlastError):
    """There is a letter where none may occur."""

    def __init__(self, letter):
        super().__init__(f"the letter {letter} may not occur here")
        self.letter = letter


class NotPlain(RightatlastError):
    """There is a quantifier where none may occur."""


class TooLarge(RightatlastError):
    """A number, size, depth, text or list is above its limit."""


class TooWide(RightatlastError):
    """There are too many choice terms, holes, atoms, candidates or cases."""


class TooDeep(RightatlastError):
    """A choice of a third storey would be needed."""


class RowError(RightatlastError):
    """A row is refused."""

    def __init__(self, row):
        super().__init__(f"row {row} is refused")
        self.row = row


class BadRow(RowError):
    """A row does not have the form that it should have."""


class TakenName(RowError):
    """A row declares a name that is declared already."""


class BadBody(RowError):
    """A formula cannot be the body of a choice."""


class BadDemand(RowError):
    """A row is not the text of a demand."""


class UnknownName(RightatlastError):
    """A name is not declared or not known."""

    def __init__(self, name):
        super().__init__(f"{name} is not known")
        self.name = name


class Unfit(RightatlastError):
    """A word does not fit a book."""

    def __init__(self, name):
        super().__init__(f"{name} does not fit the book")
        self.name = name


class BadInput(RightatlastError):
    """A key of inputs is not a name, or its number is too large."""

    def __init__(self, name):
        super().__init__(f"{name!r} is not a name, or its number is too large")
        self.name = name


class MissingInput(RightatlastError):
    """A name has no input."""

    def __init__(self, name):
        super().__init__(f"{name} has no input")
        self.name = name


class BadPlace(RightatlastError):
    """A tuple is no place of a table."""

    def __init__(self, place):
        super().__init__(f"{place} is no place of the table")
        self.place = tuple(place)


class BadEntry(RightatlastError):
    """A row of guesses or a step of a journal cannot be one."""

    def __init__(self, entry):
        super().__init__(f"entry {entry} is refused")
        self.entry = entry


class Standing(RightatlastError):
    """A key has an entry already."""

    def __init__(self, name, numbers):
        super().__init__(f"{name} has an entry at {numbers} already")
        self.name = name
        self.numbers = tuple(numbers)


class Clash(RightatlastError):
    """Two guesses differ at a key."""

    def __init__(self, name, numbers):
        super().__init__(f"the guesses for {name} at {numbers} differ")
        self.name = name
        self.numbers = tuple(numbers)


class NotRight(RightatlastError):
    """An entry is not right."""

    def __init__(self, name, numbers):
        super().__init__(f"the entry of {name} at {numbers} is not right")
        self.name = name
        self.numbers = tuple(numbers)


class NotOpen(RightatlastError):
    """A number is not that of an open demand, or of any demand."""

    def __init__(self, demand):
        super().__init__(f"demand {demand} is not open")
        self.demand = demand


class WrongStep(RightatlastError):
    """A step of a journal is not right."""

    def __init__(self, step):
        super().__init__(f"step {step} is not right")
        self.step = step


class Unfinished(RightatlastError):
    """A climb has reached its limit and does not stand."""

    def __init__(self, journal):
        super().__init__("the task does not stand within the limit")
        self.journal = journal


class WrongBook(RightatlastError):
    """Two arguments belong to books with different texts."""


class WrongLine(RightatlastError):
    """A line is wrong."""

    def __init__(self, line):
        super().__init__(f"line {line} is wrong")
        self.line = line


class HasFact(RightatlastError):
    """There is a fact line where none may occur."""

    def __init__(self, line):
        super().__init__(f"line {line} is a fact line")
        self.line = line


class NotSimple(RightatlastError):
    """There is a least or fact line where none may occur."""

    def __init__(self, line):
        super().__init__(f"line {line} is a least or fact line")
        self.line = line


class NoChoice(RightatlastError):
    """A derivation has no choice terms."""


class HasChoices(RightatlastError):
    """A book has choices where none may be."""


class NeedsNumbers(RightatlastError):
    """The number of an induction is asked for, and no numbers are given."""


class UpperChoice(RightatlastError):
    """A choice is upper where a ground one is needed."""

    def __init__(self, name):
        super().__init__(f"{name} is an upper choice")
        self.name = name


class UpperTask(RightatlastError):
    """A task has an upper demand where none may be."""

    def __init__(self, demand):
        super().__init__(f"demand {demand} is upper")
        self.demand = demand


class NotRelational(RightatlastError):
    """A formula is not a claim of relations."""


class NothingThere(RightatlastError):
    """There is nothing to undo or to redo."""

"""Lines of spoken derivations: points 35 and 50."""

from rightatlast.errors import BadRow, RightatlastError
from rightatlast.formulatext import read_formula
from rightatlast.lines import BAR, MOST_LINES, SIGN, cited_numbers, without_bars
from rightatlast.pieces import choice_terms
from rightatlast.rowtext import number_in
from rightatlast.terms import Term
from rightatlast.termtext import read_term
from rightatlast.words import is_name

MOST_TURNS = 20
# The word between the cited number and the term, for the reasons that have a term.
TERM_WORDS = {"some": "by", "each": "at", "least": "by"}


def _reason_text(reason, numbers, term, name):
    """The text of a reason with these parts."""
    words = [reason] + [str(number) for number in numbers]
    if reason in TERM_WORDS:
        words = [*words, TERM_WORDS[reason], term.text]
    elif reason == "induct":
        words = [*words, "to", term.text]
    elif reason == "take":
        words = [*words, "as", name]
    return " ".join(words)


class SpokenLine:
    """A line of a spoken derivation. `read_spoken_line` makes lines; the constructor leaves everything unexamined."""

    def __init__(self, depth, formula, reason, numbers=(), term=None, name=""):
        self.depth = depth
        self.formula = formula
        self.reason = reason
        self.numbers = tuple(numbers)
        self.term = term
        self.name = name
        if formula is None:
            self.text = f"{BAR * depth}{reason} {name}"
        else:
            shown = _reason_text(reason, numbers, term, name)
            self.text = f"{BAR * depth}{formula.text}{SIGN}{shown}"

    def __eq__(self, other):
        return isinstance(other, SpokenLine) and self.text == other.text

    def __str__(self):
        return str(self.text)


def _line_number(word):
    """The number of a line that a word shows, or None."""
    number = number_in(word, MOST_LINES)
    return None if number == 0 else number


def _read_with_term(depth, formula, text):
    """The line whose reason has a number and a term, or None; the term may fail to be read."""
    words = text.split(" ")
    if len(words) < 4 or words[2] != TERM_WORDS[words[0]]:
        return None
    number = _line_number(words[1])
    if number is None:
        return None
    return SpokenLine(depth, formula, words[0], (number,), read_term(" ".join(words[3:])))


def _read_take(depth, formula, words):
    """The line whose reason is `take` with words behind it, or None."""
    if len(words) != 4 or words[2] != "as" or not is_name(words[3]):
        return None
    number = _line_number(words[1])
    return SpokenLine(depth, formula, "take", (number,), name=words[3]) if number is not None else None


def _read_end(word):
    """The term of a word that is a name, or a number of turns; otherwise None."""
    if is_name(word):
        return Term.of_name(word)
    number = number_in(word, MOST_TURNS)
    return Term.of_number(number) if number is not None else None


def _read_induct(depth, formula, words):
    """The line whose reason is `induct` with words behind it, or None."""
    if len(words) != 5 or words[3] != "to":
        return None
    numbers = (_line_number(words[1]), _line_number(words[2]))
    term = _read_end(words[4])
    if None in numbers or term is None:
        return None
    return SpokenLine(depth, formula, "induct", numbers, term)


def _read_every(depth, formula, words):
    """The line whose reason is `every` with words behind it, or None."""
    number = _line_number(words[1]) if len(words) == 2 else None
    return SpokenLine(depth, formula, "every", (number,)) if number is not None else None


def _read_reason(depth, formula, text):
    """The line with the reason that a text shows, or None; what it contains may fail to be read."""
    words = text.split(" ")
    if words[0] in TERM_WORDS:
        return _read_with_term(depth, formula, text)
    if words[0] == "take":
        return _read_take(depth, formula, words)
    if words[0] == "induct":
        return _read_induct(depth, formula, words)
    if words[0] == "every":
        return _read_every(depth, formula, words)
    numbers = cited_numbers(words)
    return SpokenLine(depth, formula, words[0], numbers) if numbers is not None else None


def _can_stand(book, line):
    """True if a line has no free letters and no choices, and fits a book."""
    things = [line.formula] if line.term is None else [line.formula, line.term]
    if len(choice_terms(things)) > 0:
        return False
    return all([len(thing.letters) == 0 and book.fits(thing) for thing in things])


def _read_fresh(depth, text):
    """The `fresh` line that a text without bars shows, or None."""
    word, _, name = text.partition(" ")
    return SpokenLine(depth, None, word, name=name) if word == "fresh" and is_name(name) else None


def read_spoken_line(book, text, row):
    """The line of a row."""
    depth, rest = without_bars(text)
    fresh = _read_fresh(depth, rest)
    if fresh is not None:
        return fresh
    front, _, back = rest.partition(SIGN)
    try:
        line = _read_reason(depth, read_formula(front), back)
        fitting = line is not None and _can_stand(book, line)
    except RightatlastError:
        raise BadRow(row) from None
    if not fitting:
        raise BadRow(row)
    return line

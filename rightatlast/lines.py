"""Lines of derivations: point 35."""

from rightatlast.demands import read_head_and_by
from rightatlast.errors import BadRow, RightatlastError
from rightatlast.formulatext import read_formula
from rightatlast.listing import once
from rightatlast.rowtext import number_in
from rightatlast.termtext import read_term
from rightatlast.words import is_name

BAR = "| "
SIGN = " ; "
MOST_DEPTH = 20
MOST_LINES = 1200
MOST_FOLLOWED = 12
MOST_CHARACTERS = 1000
# How many lines each reason cites; `follows` cites as many as it likes.
COUNTS = {"assume": 0, "order": 0, "if": 1, "among": 1, "cases": 2, "swap": 2}
BY_REASONS = ("demand", "least")


def _reason_text(reason, numbers, terms, name, puts):
    """The text of a reason with these parts."""
    if reason in BY_REASONS:
        return f"{reason} {terms[0].text} by {terms[1].text}"
    if reason == "zero":
        return f"{reason} {terms[0].text}"
    if reason == "fact":
        inner = ", ".join([f"{word} = {term.text}" for word, term in puts])
        return f"{reason} {name} {inner}" if len(puts) > 0 else f"{reason} {name}"
    return " ".join([reason] + [str(number) for number in numbers])


class Line:
    """A line of a derivation. `read_line` makes lines; the constructor leaves everything unexamined."""

    def __init__(self, depth, formula, reason, numbers=(), terms=(), name="", puts=()):
        self.depth = depth
        self.formula = formula
        self.reason = reason
        self.numbers = tuple(numbers)
        self.terms = tuple(terms)
        self.name = name
        self.puts = tuple(puts)
        shown = _reason_text(reason, numbers, terms, name, puts)
        self.text = f"{BAR * depth}{formula.text}{SIGN}{shown}"

    def __eq__(self, other):
        return isinstance(other, Line) and self.text == other.text

    def __str__(self):
        return str(self.text)


def cited_numbers(words):
    """The list of the numbers of lines behind the first one of some words, or None if these are not such a reason."""
    numbers = [number_in(word, MOST_LINES) for word in words[1:]]
    if None in numbers or 0 in numbers:
        return None
    if words[0] == "follows":
        return numbers if len(numbers) <= MOST_FOLLOWED else None
    return numbers if COUNTS.get(words[0]) == len(numbers) else None


def _read_puts(text):
    """The list of the pairs of names and terms that a text shows, or None if it has another form.

    No term contains `=`, so that each ` = ` stands behind a name.
    """
    pieces = text.split(" = ")
    names = [pieces[0]]
    shown = []
    for piece in pieces[1:-1]:
        front, _, name = piece.rpartition(", ")
        shown.append(front)
        names.append(name)
    shown.append(pieces[-1])
    if len(pieces) == 1 or any([not is_name(name) for name in names]) or len(once(names)) < len(names):
        return None
    return [(name, read_term(term)) for name, term in zip(names, shown)]


def _read_fact(depth, formula, text):
    """The line whose reason is `fact` with a text behind it, or None."""
    name, space, rest = text.partition(" ")
    puts = _read_puts(rest) if space != "" else []
    if not is_name(name) or puts is None:
        return None
    return Line(depth, formula, "fact", name=name, puts=puts)


def _read_reason(depth, formula, text):
    """The line with the reason that a text shows, or None; what it contains may fail to be read, or to fit."""
    reason, _, rest = text.partition(" ")
    if reason in BY_REASONS:
        head, by = read_head_and_by(rest)
        fitting = len(f"{head.text} by {by.text}") <= MOST_CHARACTERS
        return Line(depth, formula, reason, terms=(head, by)) if fitting else None
    if reason == "zero":
        head = read_term(rest)
        return Line(depth, formula, reason, terms=(head,)) if head.kind == "choice" else None
    if reason == "fact":
        return _read_fact(depth, formula, rest)
    numbers = cited_numbers(text.split(" "))
    return Line(depth, formula, reason, numbers) if numbers is not None else None


def _can_stand(book, line):
    """True if a line has no letters and no quantifiers, and fits a book."""
    if line.formula.quantified:
        return False
    things = [line.formula, *line.terms] + [term for _, term in line.puts]
    return all([len(thing.letters) == 0 and book.fits(thing) for thing in things])


def without_bars(text):
    """The pair of the depth that the bars in front of a row show and of what stands behind them.

    Bars beyond the greatest depth are not counted, so that they stay in what is told.
    """
    depth = 0
    while depth < MOST_DEPTH and text.startswith(BAR):
        text = text[len(BAR):]
        depth += 1
    return (depth, text)


def read_line(book, text, row):
    """The line of a row."""
    depth, rest = without_bars(text)
    front, _, back = rest.partition(SIGN)
    try:
        line = _read_reason(depth, read_formula(front), back)
        fitting = line is not None and _can_stand(book, line)
    except RightatlastError:
        raise BadRow(row) from None
    if not fitting:
        raise BadRow(row)
    return line

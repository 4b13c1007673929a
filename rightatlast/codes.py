"""Codes of tasks for the machine: point 47."""

from rightatlast.errors import BadRow, TooLarge, UpperTask
from rightatlast.rowtext import number_in, rows_of
from rightatlast.words import is_choice, is_letter, is_name, is_relation

MOST_ROWS = 40000
# What kind of word stands behind the first word of a row, where one does.
KINDS = {"name": "name", "call": "name", "letter": "letter", "holds": "relation", "guess": "choice", "body": "choice",
         "correct": "choice"}
# The least and the greatest of each of the numbers that stand behind these.
BOUNDS = {"number": ((0, 99),), "name": (), "add": ((1, 9),), "call": ((1, 2),), "guess": ((0, 6),), "letter": (),
          "same": (), "most": (), "holds": ((1, 2),), "not": (), "and": (), "or": (), "if": (), "body": (), "end": (),
          "demand": ((1, 60),), "pass": ((1, 99999),), "correct": ((0, 6), (1, 60)), "stop": ()}


def _term_rows(term):
    """The list of the rows that push the value of a term."""
    if term.kind == "number":
        return [("number", term.number)]
    if term.kind in ("name", "letter"):
        return [(term.kind, term.name)]
    rows = [row for part in term.parts for row in _term_rows(part)]
    if term.kind == "sum":
        return rows + [("add", term.number)]
    return rows + [("call" if term.kind == "function" else "guess", term.name, len(term.parts))]


def _formula_rows(formula):
    """The list of the rows that push the truth of a plain formula or of a body."""
    rows = [row for term in formula.terms for row in _term_rows(term)]
    rows = rows + [row for part in formula.parts for row in _formula_rows(part)]
    if formula.kind == "holds":
        return rows + [("holds", formula.name, len(formula.terms))]
    return rows + [(formula.kind,)]


def _body_rows(task):
    """The list of the rows of the sections of the bodies."""
    used = [demand.choice.name for demand in task.demands]
    rows = []
    for choice in task.book.choices:
        if choice.name in used:
            rows.extend([("body", choice.name), *_formula_rows(choice.body), ("end",)])
    return rows


def _demand_rows(demand, number, before):
    """The list of the rows of the section of the demand with a number, behind a number of rows."""
    tested = [("demand", number), *_formula_rows(demand.formula)]
    corrected = [row for part in demand.head.parts for row in _term_rows(part)] + _term_rows(demand.by)
    corrected.append(("correct", demand.choice.name, len(demand.head.parts), number))
    behind = before + len(tested) + 1 + len(corrected) + 1
    return tested + [("pass", behind)] + corrected


def _is_of_kind(word, kind):
    """True if a word is of a kind of point 4."""
    if kind == "name":
        return is_name(word)
    if kind == "letter":
        return is_letter(word)
    return is_relation(word) if kind == "relation" else is_choice(word)


def _read_row(text):
    """The row that a text shows, or None if no code has one with this text."""
    words = text.split(" ")
    first = words[0]
    if first not in BOUNDS:
        return None
    front = words[:2] if first in KINDS else words[:1]
    shown = words[len(front):]
    if first in KINDS and (len(front) < 2 or not _is_of_kind(front[1], KINDS[first])):
        return None
    if len(shown) != len(BOUNDS[first]):
        return None
    numbers = [number_in(one, most) for one, (_, most) in zip(shown, BOUNDS[first])]
    if None in numbers or any([number < least for number, (least, _) in zip(numbers, BOUNDS[first])]):
        return None
    return (*front, *numbers)


class Code:
    """The code of a task. `code_of` and `Code.read` make codes; the constructor leaves the rows unexamined."""

    def __init__(self, rows):
        self.rows = tuple(rows)
        self.text = "\n".join([" ".join([str(item) for item in row]) for row in rows])

    @classmethod
    def read(cls, text):
        """The code of a text."""
        shown = rows_of(text)
        if len(shown) > MOST_ROWS:
            raise TooLarge()
        rows = []
        for number, one in enumerate(shown, start=1):
            row = _read_row(one)
            if row is None:
                raise BadRow(number)
            rows.append(row)
        return cls(rows)

    def __len__(self):
        return len(self.rows)

    def __eq__(self, other):
        return isinstance(other, Code) and self.text == other.text

    def __str__(self):
        return str(self.text)


def code_of(task):
    """The code of a task without upper demands."""
    for number, demand in enumerate(task.demands, start=1):
        if demand.choice.upper:
            raise UpperTask(number)
    rows = _body_rows(task)
    for number, demand in enumerate(task.demands, start=1):
        rows.extend(_demand_rows(demand, number, len(rows)))
    return Code([*rows, ("stop",)])

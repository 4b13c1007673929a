"""Journals: points 29 and 30."""

from rightatlast.ascent import Ascent
from rightatlast.corrections import right_start
from rightatlast.errors import BadEntry, BadRow, TooLarge, WrongStep
from rightatlast.rowtext import can_be_entry, entry_text, number_in, read_entry, rows_of

MOST_STEPS = 2000
MOST_DEMAND = 60


def _read_step(row):
    """The step that a row shows, or None if no step has this text."""
    front, _, back = row.partition(": ")
    demand = number_in(front, MOST_DEMAND)
    entry = read_entry(back)
    if demand is None or demand == 0 or entry is None:
        return None
    return (demand, entry[0], entry[1], entry[2])


class Journal:
    """A list of steps `(demand, name, numbers, number)`."""

    def __init__(self, steps):
        if len(steps) > MOST_STEPS:
            raise TooLarge()
        for entry, (demand, name, numbers, number) in enumerate(steps, start=1):
            if not 1 <= demand <= MOST_DEMAND or not can_be_entry(name, numbers, number):
                raise BadEntry(entry)
        self.steps = tuple(steps)
        rows = [f"{demand}: {entry_text(name, numbers, number)}" for demand, name, numbers, number in steps]
        self.text = "\n".join(rows)

    @classmethod
    def read(cls, text):
        """The journal of a text."""
        rows = rows_of(text)
        if len(rows) > MOST_STEPS:
            raise TooLarge()
        steps = [_read_step(row) for row in rows]
        for row, step in enumerate(steps, start=1):
            if step is None:
                raise BadRow(row)
        return cls(steps)

    def __len__(self):
        return len(self.steps)

    def __eq__(self, other):
        return isinstance(other, Journal) and self.text == other.text

    def __str__(self):
        return str(self.text)


def _replay(task, start, journal):
    """The pair of the number of the first wrong step, or 0, and the ascent by the steps before it."""
    ascent = Ascent(task, right_start(task, start))
    for number, step in enumerate(journal.steps, start=1):
        if step[0] not in ascent.open_numbers() or ascent.correction_of(step[0]) != step:
            return (number, ascent)
        ascent.enter(step)
    return (0, ascent)


def first_wrong_step(task, start, journal):
    """The number of the first step that is not right, or 0."""
    return _replay(task, start, journal)[0]


def replayed(task, start, journal):
    """The guesses that all steps lead to."""
    wrong, ascent = _replay(task, start, journal)
    if wrong > 0:
        raise WrongStep(wrong)
    return ascent.reached()


def is_finished(task, start, journal):
    """True if all steps are right and the task stands behind them."""
    wrong, ascent = _replay(task, start, journal)
    return wrong == 0 and ascent.is_standing()


def phases(task, journal):
    """The list of the numbers of steps of upper choices before, between and behind the steps of ground choices."""
    counts = [0]
    for step in journal.steps:
        if task.book.choice_of(step[1]).upper:
            counts[-1] += 1
        else:
            counts.append(0)
    return counts

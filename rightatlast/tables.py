"""Tables of climbs: point 49."""

from rightatlast.ascent import Ascent
from rightatlast.flags import choice_list, marks
from rightatlast.rowtext import entry_text


def climb_table(end):
    """The list of the rows of the table of a climb, one for each correction."""
    ascent = Ascent(end.task, end.start)
    terms = choice_list(end.task)
    rows = []
    for count, step in enumerate(end.journal.steps, start=1):
        ascent.enter(step)
        shown = marks(end.task, terms, ascent.table)
        demand, name, numbers, entered = step
        rows.append(f"{count:>4} {demand:>3}  {shown}  {entry_text(name, numbers, entered)}")
    return rows

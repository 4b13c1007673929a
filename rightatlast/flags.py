"""The list of a task, its flags and its bound: points 22, 27 and 28."""

from rightatlast.errors import TooWide
from rightatlast.tasks import choice_terms_of

MOST_EXPONENT = 400


def choice_list(task):
    """The tuple of the choice terms of a task, in the order of its list."""
    return choice_terms_of(task.demands)


def flags(task, guesses):
    """The text with 1 for each choice term of the list that has an entry, and 0 for each other one."""
    scene = task.scene(guesses.as_table())
    marks = []
    for term in choice_list(task):
        has_entry = guesses.has(term.name, scene.numbers_for(term.parts))
        marks.append("1" if has_entry else "0")
    return "".join(marks)


def storeys(task):
    """The pair of the numbers of ground and of upper choice terms in the list."""
    terms = choice_list(task)
    upper = len([term for term in terms if task.book.choice_of(term.name).upper])
    return (len(terms) - upper, upper)


def bound(task):
    """A number of corrections that no climb of a task exceeds."""
    ground, upper = storeys(task)
    exponent = ground * (1 << upper) + upper
    if exponent > MOST_EXPONENT:
        raise TooWide()
    return (1 << exponent) - 1

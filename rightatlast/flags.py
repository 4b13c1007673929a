"""The list of a task, its flags and its bound: points 22, 27 and 28."""

from rightatlast.errors import TooWide
from rightatlast.tasks import choice_terms_of

MOST_EXPONENT = 400


def choice_list(task):
    """The tuple of the choice terms of a task, in the order of its list."""
    return choice_terms_of(task.demands)


def marks(task, terms, table):
    """The text with 1 for each of some choice terms that has an entry in a table of guesses, and 0 for each other."""
    scene = task.scene(table)
    return "".join(["1" if (term.name, scene.numbers_for(term.parts)) in table else "0" for term in terms])


def flags(task, guesses):
    """The text with 1 for each choice term of the list that has an entry, and 0 for each other one."""
    return marks(task, choice_list(task), guesses.as_table())


def storeys(task):
    """The pair of the numbers of ground and of upper choice terms in the list."""
    terms = choice_list(task)
    upper = len([term for term in terms if task.book.choice_of(term.name).upper])
    return (len(terms) - upper, upper)


def bound(task):
    """A number of corrections that no climb of a task exceeds."""
    ground, upper = storeys(task)
    exponent = ground * (1 << upper) + upper
    if exponent > MOST_EXPONENT:
        raise TooWide()
    return (1 << exponent) - 1

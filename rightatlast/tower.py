"""Towers, the tasks that need the most corrections: point 32."""

from rightatlast.books import Book
from rightatlast.errors import TooLarge
from rightatlast.tasks import Task
from rightatlast.worlds import World

MOST_STOREYS = 6
NAMES = ("Ca", "Cb", "Cc", "Cd", "Ce", "Cf")


def _heads(count):
    """The list of the texts of the heads: each head has all heads before it as its parts."""
    heads = []
    for name in NAMES[:count]:
        inner = ", ".join(heads)
        heads.append(f"{name}({inner})" if len(heads) > 0 else name)
    return heads


def _by_terms(heads):
    """The list of the texts of the by-terms, which are put together from the last one."""
    by_terms = ["1"]
    for place in range(len(heads) - 1, 0, -1):
        head = heads[place]
        by_terms.append(head if len(by_terms) == 1 else f"both({head}, {by_terms[-1]})")
    return by_terms[::-1]


def tower(m):
    """The tower of a number from 1 to 6."""
    if m == 0 or m > MOST_STOREYS:
        raise TooLarge()
    rows = [f"pick {name} {count}: y0 = 1" for count, name in enumerate(NAMES[:m])]
    book = Book.read("\n".join(["fun both 2", *rows]))
    world = World.read(book, "top 1\nboth 0 0 0 1")
    heads = _heads(m)
    return Task(book, world, {}, [f"{head} by {by}" for head, by in zip(heads, _by_terms(heads))])

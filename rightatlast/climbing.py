"""The plain climb: points 26 and 31."""

from rightatlast.ascent import Ascent
from rightatlast.corrections import right_start
from rightatlast.errors import TooLarge, Unfinished
from rightatlast.journals import Journal

MOST_PICKS = 60
MOST_PICK = 999999
MOST_LIMIT = 2000


class Climb:
    """A climb that has come to its end."""

    def __init__(self, task, start, guesses, journal, looks):
        self.task = task
        self.start = start
        self.guesses = guesses
        self.journal = journal
        self.looks = looks


def ascent_from(task, picks, start, limit):
    """The ascent at the start of a climb, after all that is passed has been examined."""
    if len(picks) > MOST_PICKS or any([pick > MOST_PICK for pick in picks]):
        raise TooLarge()
    begin = right_start(task, start)
    if limit > MOST_LIMIT:
        raise TooLarge()
    return Ascent(task, begin)


def climb_to_the_end(ascent, picks, limit):
    """Makes corrections until the task stands."""
    while not ascent.is_standing():
        if len(ascent.steps) == limit:
            raise Unfinished(Journal(ascent.steps))
        ascent.advance(picks)


def ended_climb(ascent, looks):
    """The climb whose ascent has come to its end, with the number of its looks."""
    return Climb(ascent.task, ascent.start, ascent.reached(), Journal(ascent.steps), looks)


def climb(task, *, picks=(), start=None, limit=1000):
    """The plain climb."""
    ascent = ascent_from(task, picks, start, limit)
    climb_to_the_end(ascent, picks, limit)
    # A plain climb looks at all demands before each correction and at the end. The ascent looks at those
    # alone for which this may change something, so that the looks are not those that it counts.
    return ended_climb(ascent, len(task.demands) * (len(ascent.steps) + 1))


def climb_steps(task, *, picks=(), start=None, limit=1000):
    """Yields the steps of the plain climb, one by one; behind `limit` steps it ends."""
    ascent = ascent_from(task, picks, start, limit)
    while len(ascent.steps) < limit and not ascent.is_standing():
        step = ascent.advance(picks)
        yield step

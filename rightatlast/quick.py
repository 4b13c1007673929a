"""The quick climb: point 31."""

from rightatlast.climbing import ascent_from, climb_to_the_end, ended_climb


def quick_climb(task, *, picks=(), start=None, limit=1000):
    """The climb that looks again only at the demands whose last look read what has changed."""
    ascent = ascent_from(task, picks, start, limit)
    climb_to_the_end(ascent, picks, limit)
    return ended_climb(ascent, ascent.looks)

"""Going on from guesses in another world: points 33 and 34."""

from rightatlast.climbing import ascent_from, climb, climb_to_the_end
from rightatlast.corrections import check_amount, is_right
from rightatlast.guesses import Guesses


def kept(world, guesses):
    """The right entries of ground choices among some guesses."""
    check_amount(guesses)
    ground = guesses.without(list(world.book.upper_names))
    table = ground.as_table()
    return Guesses([row for row in ground.rows if is_right(world, table, row[0], row[1])])


def resume(task, guesses, *, picks=(), limit=1000):
    """The climb from the guesses that are kept in the world of a task."""
    return climb(task, picks=picks, start=kept(task.world, guesses), limit=limit)


def needed(task, guesses):
    """The entries that the looks at the formulas of all demands read."""
    scene = task.scene(guesses.as_table())
    for demand in task.demands:
        scene.truth_for(demand.formula)
    return Guesses([row for row in guesses.rows if row[:2] in scene.seen_keys])


def watched(task, *, picks=(), limit=1000):
    """The tuple of the places that the plain climb without a start reads."""
    ascent = ascent_from(task, picks, None, limit)
    climb_to_the_end(ascent, picks, limit)
    return tuple(sorted(list(ascent.read_places)))

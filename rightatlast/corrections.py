"""Right guesses, open demands and corrections: points 23 to 26."""

from rightatlast.ascent import Ascent, open_among
from rightatlast.errors import NotOpen, NotRight, TooLarge
from rightatlast.guesses import Guesses
from rightatlast.scenes import body_holds, body_scene, smallest_fit

MOST_ENTRIES = 2000
MOST_SUM = 20000


def check_amount(guesses):
    """Raises TooLarge if there are too many guesses, or too large ones, to examine whether they are right."""
    if len(guesses) > MOST_ENTRIES or sum([row[2] + 1 for row in guesses.rows]) > MOST_SUM:
        raise TooLarge()


def is_right(world, table, name, numbers):
    """True if the entry at a key of a table is right in a world with the guesses of the table."""
    found = [choice for choice in world.book.choices if choice.name == name and choice.count == len(numbers)]
    if len(found) == 0:
        return False
    choice = found[0]
    number = table[(name, numbers)]
    scene = body_scene(world, table, numbers)
    if choice.upper:
        return body_holds(choice, scene, number)
    return smallest_fit(choice, scene, number) == number


def wrong_entry(world, guesses):
    """The key of the first entry that is not right in a world, or None."""
    check_amount(guesses)
    table = guesses.as_table()
    for name, numbers, _ in guesses.rows:
        if not is_right(world, table, name, numbers):
            return (name, numbers)
    return None


def check_right(world, guesses):
    """Raises NotRight for the first entry that is not right in a world."""
    wrong = wrong_entry(world, guesses)
    if wrong is not None:
        raise NotRight(wrong[0], wrong[1])


def right_start(task, start):
    """What remains of a start, guesses or None, without the entries of upper choices; it must be right."""
    if start is None:
        return Guesses([])
    remaining = start.without(list(task.book.upper_names))
    check_right(task.world, remaining)
    return remaining


def open_demands(task, guesses):
    """The tuple of the numbers of the open demands."""
    return open_among(task, task.false_ones(guesses))


def _ascent_at(task, guesses, number):
    """The ascent that begins with right guesses at which the demand with a number is open."""
    check_right(task.world, guesses)
    ascent = Ascent(task, guesses)
    if number not in ascent.open_numbers():
        raise NotOpen(number)
    return ascent


def correction(task, guesses, number):
    """The step `(number, name, numbers, entered)` that corrects the open demand with a number."""
    return _ascent_at(task, guesses, number).correction_of(number)


def corrected(task, guesses, number):
    """The guesses after this correction."""
    ascent = _ascent_at(task, guesses, number)
    ascent.enter(ascent.correction_of(number))
    return ascent.reached()

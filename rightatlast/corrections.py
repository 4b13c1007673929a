"""Right guesses, open demands and corrections: points 23 to 25."""

from rightatlast.errors import NotOpen, NotRight, TooLarge
from rightatlast.scenes import Scene

MOST_ENTRIES = 2000
MOST_SUM = 20000


def _body_scene(choice, world, table, numbers):
    """The scene for the body of a choice in which the parameters have the numbers of a key."""
    words = {f"p{place}": number for place, number in enumerate(numbers, start=1)}
    words["y0"] = 0
    return Scene(world, words, table)


def _smallest_fit(choice, world, numbers, most):
    """The smallest number from 0 to `most` for which the body of a ground choice holds, or None."""
    scene = _body_scene(choice, world, {}, numbers)
    for number in range(most + 1):
        scene.words["y0"] = number
        if scene.truth_for(choice.body):
            return number
    return None


def _is_right(world, table, name, numbers):
    """True if the entry at a key of a table is right in a world with the guesses of the table."""
    found = [choice for choice in world.book.choices if choice.name == name and choice.count == len(numbers)]
    if len(found) == 0:
        return False
    choice = found[0]
    number = table[(name, numbers)]
    if not choice.upper:
        return _smallest_fit(choice, world, numbers, number) == number
    scene = _body_scene(choice, world, table, numbers)
    scene.words["y0"] = number
    return scene.truth_for(choice.body)


def wrong_entry(world, guesses):
    """The key of the first entry that is not right in a world, or None."""
    if len(guesses) > MOST_ENTRIES or sum([row[2] + 1 for row in guesses.rows]) > MOST_SUM:
        raise TooLarge()
    table = guesses.as_table()
    for name, numbers, _ in guesses.rows:
        if not _is_right(world, table, name, numbers):
            return (name, numbers)
    return None


def open_demands(task, guesses):
    """The tuple of the numbers of the open demands."""
    false_ones = task.false_ones(guesses)
    ground = tuple([number for number in false_ones if not task.demands[number - 1].choice.upper])
    return ground if len(ground) > 0 else false_ones[:1]


def correction(task, guesses, number):
    """The step `(number, name, numbers, entered)` that corrects the open demand with a number."""
    wrong = wrong_entry(task.world, guesses)
    if wrong is not None:
        raise NotRight(wrong[0], wrong[1])
    if number not in open_demands(task, guesses):
        raise NotOpen(number)
    demand = task.demands[number - 1]
    scene = task.scene(guesses.as_table())
    numbers = scene.numbers_for(demand.head.parts)
    entered = scene.number_for(demand.by)
    if not demand.choice.upper:
        entered = _smallest_fit(demand.choice, task.world, numbers, entered)
    return (number, demand.choice.name, numbers, entered)


def corrected(task, guesses, number):
    """The guesses after this correction."""
    _, name, numbers, entered = correction(task, guesses, number)
    after = guesses.added(name, numbers, entered)
    if task.book.choice_of(name).upper:
        return after
    return after.without([choice.name for choice in task.book.choices if choice.upper])

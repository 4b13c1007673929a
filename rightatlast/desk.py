"""The desk, on which a task is changed and climbed: points 63 and 64."""

from rightatlast.ascent import Ascent
from rightatlast.climbing import MOST_PICK, ascent_from, climb_to_the_end
from rightatlast.errors import BadInput, NotOpen, NothingThere, TooLarge
from rightatlast.going import kept
from rightatlast.guesses import Guesses
from rightatlast.inputs import MOST_INPUT
from rightatlast.rowtext import rows_of
from rightatlast.tasks import Task
from rightatlast.words import is_name

MOST_DONE = 199
RULER = "--"


def _demand_rows(task):
    """The list of the texts of the demands of a task."""
    return [demand.text for demand in task.demands]


def _text_of(task, guesses):
    """The text of a state."""
    rows = rows_of(task.book.text)
    inputs = [f"{name} {number}" for name, number in task.inputs]
    for more in (rows_of(task.world.text), inputs, _demand_rows(task), rows_of(guesses.text)):
        rows = [*rows, RULER, *more]
    return "\n".join(rows)


class Desk:
    """A desk with a task, guesses that are right, and a history of states."""

    def __init__(self, task):
        self._states = []
        self.done = -1
        self.go_on(task, Guesses([]))

    def show_state(self):
        """Tells of the state behind the deeds that are done."""
        self.task, self.guesses = self._states[self.done]
        self.standing = self.task.stands(self.guesses)
        self.undone = len(self._states) - 1 - self.done
        self.text = _text_of(self.task, self.guesses)

    def go_on(self, task, guesses):
        """Goes to a new state and forgets the deeds that have been undone."""
        self._states = [*self._states[:self.done + 1], (task, guesses)]
        self.done += 1
        self.show_state()

    def check_room(self):
        """Raises TooLarge if no further deed can be undone."""
        if self.done >= MOST_DONE:
            raise TooLarge()

    def ground_guesses(self):
        """The guesses without the entries of upper choices."""
        return self.guesses.without(list(self.task.book.upper_names))

    def set_place(self, name, place, value):
        """Gives the table of a function or relation another value at one place."""
        world = self.task.world.changed(name, place, value)
        guesses = kept(world, self.guesses)
        self.check_room()
        self.go_on(Task(self.task.book, world, dict(self.task.inputs), _demand_rows(self.task)), guesses)

    def set_input(self, name, number):
        """Gives a name a number."""
        if not is_name(name) or number > MOST_INPUT:
            raise BadInput(name)
        self.check_room()
        inputs = dict(self.task.inputs)
        inputs[name] = number
        self.go_on(Task(self.task.book, self.task.world, inputs, _demand_rows(self.task)), self.ground_guesses())

    def add_demand(self, text):
        """Adds a demand at the end."""
        rows = [*_demand_rows(self.task), text]
        task = Task(self.task.book, self.task.world, dict(self.task.inputs), rows)
        self.check_room()
        self.go_on(task, self.ground_guesses())

    def remove_demand(self, number):
        """Removes the demand with a number."""
        if number == 0 or number > len(self.task.demands):
            raise NotOpen(number)
        self.check_room()
        rows = _demand_rows(self.task)
        del rows[number - 1]
        self.go_on(Task(self.task.book, self.task.world, dict(self.task.inputs), rows), self.ground_guesses())

    def correct(self, pick):
        """Makes one correction, of the open demand that a pick tells."""
        if pick > MOST_PICK:
            raise TooLarge()
        ascent = Ascent(self.task, self.guesses)
        if ascent.is_standing():
            raise NotOpen(0)
        self.check_room()
        ascent.advance((pick,))
        self.go_on(self.task, ascent.reached())

    def settle(self, limit=1000):
        """Climbs from the guesses until the task stands."""
        ascent = ascent_from(self.task, (), self.guesses, limit)
        self.check_room()
        climb_to_the_end(ascent, (), limit)
        self.go_on(self.task, ascent.reached())

    def undo(self):
        """Takes back the last deed that has not been undone."""
        if self.done == 0:
            raise NothingThere()
        self.done -= 1
        self.show_state()

    def redo(self):
        """Does the deed again that was undone last."""
        if self.undone == 0:
            raise NothingThere()
        self.done += 1
        self.show_state()

    def __eq__(self, other):
        return isinstance(other, Desk) and self.text == other.text

    def __str__(self):
        return str(self.text)

"""Corrections one after another, from right guesses: points 23 to 26 and 31."""

from rightatlast.guesses import Guesses
from rightatlast.scenes import body_scene, smallest_fit


def open_among(task, false_ones):
    """The tuple of the numbers of the open demands, if these are the false ones."""
    ground = tuple([number for number in false_ones if not task.demands[number - 1].choice.upper])
    return ground if len(ground) > 0 else tuple(false_ones[:1])


class Ascent:
    """Corrections of a task, one after another, from guesses that are right.

    The last look at each demand is kept. A demand is looked at again only
    when a guess that its last look read has changed, since nothing else can
    change what a look finds.
    """

    def __init__(self, task, start):
        self.task = task
        self.start = start
        self.table = start.as_table()
        self.upper_keys = [key for key in self.table if key[0] in task.book.upper_names]
        self.steps = []
        self.looks = 0
        self.read_places = {}
        self.truths = {}
        self.read_keys = {}
        for number in range(1, len(task.demands) + 1):
            self.look_again(number)

    def look_again(self, number):
        """Looks at the demand with a number."""
        scene = self.task.scene(self.table)
        self.truths[number] = scene.truth_for(self.task.demands[number - 1].formula)
        self.read_keys[number] = scene.seen_keys
        self.note_places(scene)
        self.looks += 1

    def note_places(self, scene):
        """Notes the places that were read in a scene."""
        for place in scene.seen_places:
            self.read_places[place] = True

    def open_numbers(self):
        """The tuple of the numbers of the open demands."""
        return open_among(self.task, [number for number in self.truths if not self.truths[number]])

    def is_standing(self):
        """True if all demands are true."""
        return len(self.open_numbers()) == 0

    def correction_of(self, number):
        """The step that corrects the open demand with a number."""
        demand = self.task.demands[number - 1]
        scene = self.task.scene(self.table)
        numbers = scene.numbers_for(demand.head.parts)
        entered = scene.number_for(demand.by)
        if not demand.choice.upper:
            trial = body_scene(self.task.world, {}, numbers)
            entered = smallest_fit(demand.choice, trial, entered)
            self.note_places(trial)
        return (number, demand.choice.name, numbers, entered)

    def enter(self, step):
        """Makes a correction."""
        _, name, numbers, entered = step
        changed = {(name, numbers): True}
        self.table[(name, numbers)] = entered
        if name in self.task.book.upper_names:
            self.upper_keys.append((name, numbers))
        else:
            for key in self.upper_keys:
                del self.table[key]
                changed[key] = True
            self.upper_keys = []
        self.steps.append(step)
        for number in list(self.read_keys):
            if any([key in changed for key in self.read_keys[number]]):
                self.look_again(number)

    def advance(self, picks):
        """Makes the next correction, by the picks, and returns its step."""
        numbers = self.open_numbers()
        index = picks[len(self.steps) % len(picks)] % len(numbers) if len(picks) > 0 else 0
        step = self.correction_of(numbers[index])
        self.enter(step)
        return step

    def reached(self):
        """The guesses after the corrections so far."""
        return Guesses([(name, numbers, self.table[(name, numbers)]) for name, numbers in self.table])

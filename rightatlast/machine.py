"""The machine that does the rows of codes: point 48."""

from rightatlast.climbing import MOST_LIMIT
from rightatlast.errors import TooLarge, Unfinished
from rightatlast.guesses import Guesses
from rightatlast.journals import Journal

READING_WORDS = ("call", "guess", "holds")


class Machine:
    """The machine with a code, in a world with inputs."""

    def __init__(self, code, world, inputs):
        self.rows = code.rows
        self.world = world
        self.words = dict(inputs)
        self.table = {}
        self.steps = []
        self.stack = []
        self.done = 0
        # Where the section of the body of each choice begins, and where the machine begins; places are counted from 0.
        self.sections = {row[1]: place for place, row in enumerate(self.rows) if row[0] == "body"}
        self.begin = [place for place, row in enumerate(self.rows) if row[0] in ("demand", "stop")][0]

    def take_last(self, count):
        """Takes the tuple of the last numbers from the stack."""
        start = len(self.stack) - count
        numbers = tuple(self.stack[start:])
        del self.stack[start:]
        return numbers

    def push_row(self, row):
        """Does a row that pushes a number or a truth."""
        word = row[0]
        if word == "number":
            self.stack.append(row[1])
        elif word in ("name", "letter"):
            self.stack.append(self.words[row[1]])
        elif word == "add":
            self.stack.append(self.stack.pop() + row[1])
        elif word in READING_WORDS:
            numbers = self.take_last(row[2])
            self.stack.append(self.found_at(word, row[1], numbers))
        elif word == "not":
            self.stack.append(not self.stack.pop())
        else:
            self.push_joined(word)

    def found_at(self, word, name, numbers):
        """What a table or the guesses have at some numbers."""
        if word == "guess":
            return self.table.get((name, numbers), 0)
        return self.world.value_at(name, self.world.place_of(numbers))

    def push_joined(self, word):
        """Pushes what two numbers or two truths are joined to."""
        right = self.stack.pop()
        left = self.stack.pop()
        if word == "same":
            self.stack.append(left == right)
        elif word == "most":
            self.stack.append(left <= right)
        elif word == "and":
            self.stack.append(left and right)
        elif word == "or":
            self.stack.append(left or right)
        else:
            self.stack.append(not left or right)

    def body_holds(self, name, number):
        """Does the rows of a body for a number, and tells whether the body holds."""
        self.words["y0"] = number
        place = self.sections[name] + 1
        while self.rows[place][0] != "end":
            self.push_row(self.rows[place])
            self.done += 1
            place += 1
        return self.stack.pop()

    def correct_guess(self, row):
        """Does a `correct` row."""
        _, name, count, demand = row
        most = self.stack.pop()
        numbers = self.take_last(count)
        for place, number in enumerate(numbers, start=1):
            self.words[f"p{place}"] = number
        entered = 0
        while entered <= most and not self.body_holds(name, entered):
            entered += 1
        self.table[(name, numbers)] = entered
        self.steps.append((demand, name, numbers, entered))

    def work(self, limit):
        """Does rows until it comes to the `stop` row, with at most `limit` corrections."""
        place = self.begin
        while self.rows[place][0] != "stop":
            row = self.rows[place]
            place += 1
            self.done += 1
            if row[0] == "pass":
                place = row[1] - 1 if self.stack.pop() else place
            elif row[0] == "correct":
                if len(self.steps) == limit:
                    raise Unfinished(Journal(self.steps))
                self.correct_guess(row)
                place = self.begin
            elif row[0] != "demand":
                self.push_row(row)
        self.done += 1


def machine_run(code, world, inputs, *, limit=1000):
    """The tuple of the guesses, the journal and the number of rows that were done."""
    if limit > MOST_LIMIT:
        raise TooLarge()
    machine = Machine(code, world, inputs)
    machine.work(limit)
    guesses = Guesses([(name, numbers, machine.table[(name, numbers)]) for name, numbers in machine.table])
    return (guesses, Journal(machine.steps), machine.done)

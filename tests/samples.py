"""Tasks for the tests, and a climb that follows the words of the points one by one, as slow as they are."""

import random

from rightatlast.books import Book, body_at
from rightatlast.errors import TooWide
from rightatlast.guesses import Guesses
from rightatlast.tasks import Task
from rightatlast.terms import Term
from rightatlast.values import look_at, truth_of, value_of
from rightatlast.worlds import World

GROUND_ROWS = ["fun f 1", "fun g 2", "rel R 1", "rel S 2", "pick Low 1: f(y0) <= p1", "pick One 2: y0 = 1",
               "pick Rel 1: (R(y0) and not S(y0, p1))", "pick Any 0: R(y0)", "pick Ge 2: (g(p1, p2) <= y0 and not y0 = 0)"]
UPPER_ROWS = ["pick Up 1: (Low(p1) <= y0 and R(y0))", "pick Ut 0: S(y0, Any)", "pick Uz 1: not One(y0, p1) = y0"]
COUNTS = {"Low": 1, "One": 2, "Rel": 1, "Any": 0, "Ge": 2, "Up": 1, "Ut": 0, "Uz": 1}
GROUND_BOOK = Book.read("\n".join(GROUND_ROWS))
BOOK = Book.read("\n".join(GROUND_ROWS + UPPER_ROWS))


def some_world(source, book):
    """A world with a top of 3, with tables by which most bodies hold at some number, but not at 0."""
    squares = range(16)
    rows = ["top 3", "f 9 " + " ".join(str(source.randrange(4)) for _ in range(3)),
            "g " + " ".join(str(source.randrange(4)) for _ in squares),
            "R 0 " + " ".join(str(source.randrange(2)) for _ in range(3)),
            "S " + " ".join("0" if place < 4 else str(source.randrange(2)) for place in squares)]
    return World.read(book, "\n".join(rows))


def some_heads(source, names):
    """A list of texts of choice terms; the parts are mostly choice terms that stand before them."""
    heads = []
    for _ in range(6):
        name = source.choice(names)
        parts = [source.choice(heads * 2 + ["x", "z", "1"]) for _ in range(COUNTS[name])]
        parts = [f"f({part})" if source.randrange(6) == 0 else part for part in parts]
        heads.append(f"{name}({', '.join(parts)})" if parts else name)
    return heads


def some_task(seed, upper):
    """A task with demands of ground choices alone, or of both kinds."""
    source = random.Random(seed)
    book = BOOK if upper else GROUND_BOOK
    names = [choice.name for choice in book.choices]
    while True:
        heads = some_heads(source, names)
        by_terms = heads + [f"g({head}, 1)" for head in heads] + ["1", "2", "3", "x", "z"] * 2
        rows = [f"{source.choice(heads)} by {source.choice(by_terms)}" for _ in range(20)]
        world = some_world(source, book)
        try:
            return Task(book, world, {"x": source.randrange(4), "z": source.randrange(4)}, rows)
        except TooWide:
            continue


def some_picks(seed):
    """A tuple of picks, perhaps without picks."""
    source = random.Random(seed)
    return tuple(source.randrange(1000) for _ in range(source.randrange(4)))


class SlowClimb:
    """The climb of a task without a start, by the words of points 23 to 26, 31 and 34."""

    def __init__(self, task, picks, limit):
        self.task = task
        self.inputs = dict(task.inputs)
        self.guesses = Guesses([])
        self.steps = []
        self.looks = 0
        self.quick_looks = 0
        self.places = set()
        self.states = [self.guesses]
        changed = None
        while True:
            numbers = self.examine(changed)
            if not numbers or len(self.steps) == limit:
                break
            number = numbers[picks[len(self.steps) % len(picks)] % len(numbers)] if picks else numbers[0]
            changed = self.correct(number)
            self.states.append(self.guesses)
        self.stands = not numbers

    def examine(self, changed):
        """Looks at all demands and tells which ones are open."""
        false_ones = []
        keys = []
        for number, demand in enumerate(self.task.demands, start=1):
            look = look_at(demand.formula, self.task.world, self.inputs, self.guesses)
            self.looks += 1
            self.places |= set(look.places)
            keys.append(set(look.guess_keys))
            if not look.truth:
                false_ones.append(number)
        # What was read before decides which demands a quick climb looks at again.
        self.quick_looks += sum(1 for old in self.keys if old & changed) if changed is not None else len(keys)
        self.keys = keys
        ground = [number for number in false_ones if not self.task.demands[number - 1].choice.upper]
        return ground if ground else false_ones[:1]

    def correct(self, number):
        """Corrects a demand and tells the keys whose guesses have changed."""
        demand = self.task.demands[number - 1]
        world = self.task.world
        values = tuple(value_of(part, world, self.inputs, self.guesses) for part in demand.head.parts)
        entered = value_of(demand.by, world, self.inputs, self.guesses)
        uppers = [choice.name for choice in self.task.book.choices if choice.upper]
        removed = set()
        if not demand.choice.upper:
            entered = self.try_numbers(demand, values, entered)
            removed = {row[:2] for row in self.guesses.rows if row[0] in uppers}
            self.guesses = self.guesses.without(uppers)
        self.guesses = self.guesses.added(demand.choice.name, values, entered)
        self.steps.append((number, demand.choice.name, values, entered))
        return removed | {(demand.choice.name, values)}

    def try_numbers(self, demand, values, most):
        """The smallest number up to another one for which the body of a ground choice holds."""
        parts = [Term.of_number(value) for value in values]
        for number in range(most + 1):
            body = body_at(demand.choice, parts, Term.of_number(number))
            self.places |= set(look_at(body, self.task.world, {}, Guesses([])).places)
            if truth_of(body, self.task.world, {}, Guesses([])):
                return number
        raise AssertionError("no number fits")


def long_task(gates=33):
    """A task whose climb makes 2175 corrections, or fewer with fewer gates.

    It is a tower of six storeys whose by-terms are 0 as long as Gate is 0.
    Gate is the last one of 33 upper choice terms, all of which lose their
    entries with each of the 63 corrections of the tower.
    """
    letters = "abcdef"
    book = Book.read("\n".join(["fun both 2", "pick Zero 0: y0 = 1"]
                               + [f"pick T{letter} {count}: y0 = 1" for count, letter in enumerate(letters)]
                               + ["pick Gate 1: (y0 = 1 and Zero = 0)"]))
    heads = []
    for letter in letters:
        heads.append(f"T{letter}({', '.join(heads)})" if heads else f"T{letter}")
    by_terms = ["1"]
    for head in reversed(heads[1:]):
        by_terms.append(head if len(by_terms) == 1 else f"both({head}, {by_terms[-1]})")
    rows = [f"{head} by both({by}, Gate({gates - 1}))" for head, by in zip(heads, reversed(by_terms))]
    rows += [f"Gate({number}) by 1" for number in range(gates)]
    return Task(book, World.read(book, "top 1\nboth 0 0 0 1"), {}, rows)

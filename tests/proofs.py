"""Spoken derivations that are accepted, and a slow examination that follows the words of points 36 to 53 one by one."""

from rightatlast.books import Book
from rightatlast.errors import RightatlastError
from rightatlast.follows import entails
from rightatlast.formulas import Formula
from rightatlast.orders import order_gap
from rightatlast.pieces import members_of
from rightatlast.putting import put_letters, put_names
from rightatlast.spoken import Spoken
from rightatlast.swaps import is_swap
from rightatlast.terms import Term

BOOK = Book.read("fun f 1\nfun g 2\nrel R 1\nrel S 2")
STEPS = "some x1: (R(x1) and not R(x1 + 1))"

INDUCTION = f"""| R(0) ; assume
| (R(0) or {STEPS}) ; among 1
| | fresh k
| | | (R(k) or {STEPS}) ; assume
| | | | R(k + 1) ; assume
| | | | (R(k + 1) or {STEPS}) ; among 5
| | | | not R(k + 1) ; assume
| | | | | R(k) ; assume
| | | | | (R(k) and not R(k + 1)) ; follows 7 8
| | | | | {STEPS} ; some 9 by k
| | | | (R(k) -> {STEPS}) ; if 8
| | | | {STEPS} ; follows 4 11
| | | | (R(k + 1) or {STEPS}) ; among 12
| | | (R(k + 1) or {STEPS}) ; cases 5 7
| (R(n) or {STEPS}) ; induct 2 3 to n
(R(0) -> (R(n) or {STEPS})) ; if 1"""

EACH_AND_SOME = """| every y1: R(y1) ; assume
| R(f(n)) ; each 1 at f(n)
| some y1: R(f(y1)) ; some 2 by n
(every y1: R(y1) -> some y1: R(f(y1))) ; if 1"""

EVERY = """| fresh x
| | R(f(x)) ; assume
| (R(f(x)) -> R(f(x))) ; if 2
every y1: (R(f(y1)) -> R(f(y1))) ; every 1"""

TAKE = """| some y1: S(y1, n) ; assume
| S(w, n) ; take 1 as w
| some y2: S(y2, n) ; some 2 by w
(some y1: S(y1, n) -> some y2: S(y2, n)) ; if 1"""

SMALLEST = "some y1: (R(y1) and every y2: (R(y2) -> y1 <= y2))"
LEAST = f"""| some y1: R(y1) ; assume
| R(w) ; take 1 as w
| | fresh x
| | (R(x) -> w <= x) ; least 2 by x
| every y2: (R(y2) -> w <= y2) ; every 3
| (R(w) and every y2: (R(y2) -> w <= y2)) ; follows 2 5
| {SMALLEST} ; some 6 by w
(some y1: R(y1) -> {SMALLEST}) ; if 1"""

DRINKER = """| every y2: R(y2) ; assume
| (R(0) -> every y2: R(y2)) ; follows 1
| some y1: (R(y1) -> every y2: R(y2)) ; some 2 by 0
| not every y2: R(y2) ; assume
| | not some y1: (R(y1) -> every y2: R(y2)) ; assume
| | | fresh v
| | | | not R(v) ; assume
| | | | (R(v) -> every y2: R(y2)) ; follows 7
| | | | some y1: (R(y1) -> every y2: R(y2)) ; some 8 by v
| | | (not R(v) -> some y1: (R(y1) -> every y2: R(y2))) ; if 7
| | | R(v) ; follows 10 5
| | every y2: R(y2) ; every 6
| (not some y1: (R(y1) -> every y2: R(y2)) -> every y2: R(y2)) ; if 5
| some y1: (R(y1) -> every y2: R(y2)) ; follows 13 4
some y1: (R(y1) -> every y2: R(y2)) ; cases 1 4"""

ORDERS = """| x = f(z) ; assume
| | S(x + 1, g(x, z)) ; assume
| | S(f(z) + 1, g(x, z)) ; swap 1 2
| | (x <= 3 -> x + 1 <= 4) ; order
| | (f(z) <= 3 -> f(z) + 1 <= 4) ; swap 1 4
| | (S(f(z) + 1, g(x, z)) and (f(z) <= 3 -> f(z) + 1 <= 4)) ; follows 3 5
| | some y1: (S(y1 + 1, g(x, z)) and (y1 <= 3 -> y1 + 1 <= 4)) ; some 6 by f(z)
| (S(x + 1, g(x, z)) -> some y1: (S(y1 + 1, g(x, z)) and (y1 <= 3 -> y1 + 1 <= 4))) ; if 2
(x = f(z) -> (S(x + 1, g(x, z)) -> some y1: (S(y1 + 1, g(x, z)) and (y1 <= 3 -> y1 + 1 <= 4)))) ; if 1"""

# From every y1: some y2: S(y1, y2) follows for each number that there is a chain of this length.
CHAIN = """| every y1: some y2: S(y1, y2) ; assume
| some y2: S(m, y2) ; each 1 at m
| some y3: some y2: S(y3, y2) ; some 2 by m
| | fresh k
| | | some y3: some y2: S(y3, y2) ; assume
| | | some y2: S(a, y2) ; take 5 as a
| | | S(a, b) ; take 6 as b
| | | some y2: S(b, y2) ; each 1 at b
| | | some y3: some y2: S(y3, y2) ; some 8 by b
| some y3: some y2: S(y3, y2) ; induct 3 4 to 2
(every y1: some y2: S(y1, y2) -> some y3: some y2: S(y3, y2)) ; if 1"""

# If every number that is R is followed by one, and 0 is R, then n is R; within, an induction of 3 turns for each turn.
TWICE = """| (R(0) and every y1: (R(y1) -> R(y1 + 1))) ; assume
| R(0) ; follows 1
| every y1: (R(y1) -> R(y1 + 1)) ; follows 1
| | fresh k
| | | R(k) ; assume
| | | (R(k) -> R(k + 1)) ; each 3 at k
| | | R(k + 1) ; follows 5 6
| | | x <= x ; order
| | | | fresh j
| | | | | x <= x ; assume
| | | | | (R(j) or not R(j)) ; follows
| | | | | x <= x ; among 10
| | | x <= x ; induct 8 9 to 3
| | | (R(k + 1) and x <= x) ; follows 7 13
| | | R(k + 1) ; follows 14
| R(n) ; induct 2 4 to n
((R(0) and every y1: (R(y1) -> R(y1 + 1))) -> R(n)) ; if 1"""

# An assume box within a fresh box, fresh within fresh, and a take line that is cited from deeper boxes.
NESTED = """| some y1: every y2: S(y1, y2) ; assume
| every y2: S(w, y2) ; take 1 as w
| | fresh x
| | S(w, x) ; each 2 at x
| | some y1: S(y1, x) ; some 4 by w
| | | fresh z
| | | | S(z, x) ; assume
| | | | S(w, z) ; each 2 at z
| | | | (S(z, x) and S(w, z)) ; follows 7 8
| | | (S(z, x) -> (S(z, x) and S(w, z))) ; if 7
| | every y3: (S(y3, x) -> (S(y3, x) and S(w, y3))) ; every 6
| | some y1: S(y1, x) ; among 5
| every y4: some y1: S(y1, y4) ; every 3
(some y1: every y2: S(y1, y2) -> every y4: some y1: S(y1, y4)) ; if 1"""

# Inputs and texts, by their names.
PROOFS = {"induction": (["n"], INDUCTION), "each and some": (["n"], EACH_AND_SOME), "every": ([], EVERY),
          "take": (["n"], TAKE), "least": ([], LEAST), "drinker": ([], DRINKER), "orders": (["x", "z"], ORDERS),
          "chain": (["m"], CHAIN), "twice": (["n", "x"], TWICE), "nested": ([], NESTED)}


def proof(name):
    """A spoken derivation that is accepted."""
    inputs, text = PROOFS[name]
    return Spoken.read(BOOK, inputs, text)


class SlowExamination:
    """The boxes, names and right lines of a spoken derivation, by the words of the points."""

    def __init__(self, spoken):
        self.spoken = spoken
        self.lines = (None,) + spoken.lines
        self.count = len(spoken.lines)

    def opens(self, number):
        """True if the line opens a box."""
        return self.lines[number].reason in ("assume", "fresh")

    def depth_obeys(self, number):
        """Point 36, for one line."""
        before = self.lines[number - 1].depth if number > 1 else 0
        low, high = (1, before + 1) if self.opens(number) else (0, before)
        return low <= self.lines[number].depth <= high

    def within(self, number):
        """The boxes that the line is within."""
        found = []
        for other in range(1, number + 1):
            depth = self.lines[other].depth
            found = found[:depth - 1] + [other] if self.opens(other) else found[:depth]
        return found

    def cites_line(self, number, cited):
        """True if the line may cite another one."""
        if not 1 <= cited < number or self.lines[cited].reason == "fresh":
            return False
        return all(box in self.within(number) for box in self.within(cited))

    def last_of(self, box):
        """The last line that is within a box."""
        return max(number for number in range(box, self.count + 1) if box in self.within(number))

    def cites_box(self, number, box, deeper=False):
        """True if the line may cite a box."""
        if not 1 <= box < number or not self.opens(box) or box in self.within(number):
            return False
        if not all(other in self.within(number) for other in self.within(box) if other != box):
            return False
        return deeper or self.lines[self.last_of(box)].depth == self.lines[box].depth

    def first_behind(self, box):
        """The first line that is not within a box, or 0."""
        return ([number for number in range(box + 1, self.count + 1) if box not in self.within(number)] + [0])[0]

    def closing_obeys(self, number):
        """Point 51: fresh boxes that end in front of the line, and fresh boxes that it cites."""
        line = self.lines[number]
        for box in range(1, number):
            if self.lines[box].reason == "fresh" and self.first_behind(box) == number:
                closes = line.reason == "every" and line.numbers == (box,)
                closes = closes or (line.reason == "induct" and line.numbers[1] == box)
                if not closes or line.depth != self.lines[box].depth - 1:
                    return False
        cited = {"every": line.numbers, "induct": line.numbers[1:], "if": line.numbers, "cases": line.numbers}
        for box in cited.get(line.reason, ()):
            fresh = 1 <= box <= self.count and self.lines[box].reason == "fresh"
            if fresh != (line.reason in ("every", "induct")) or (fresh and self.first_behind(box) != number):
                return False
        return True

    def usable(self, number):
        """Point 52: the set of the names that the line may use."""
        names = set(self.spoken.inputs)
        names |= {self.lines[box].name for box in self.within(number) if self.lines[box].reason == "fresh"}
        names |= {self.lines[other].name for other in range(1, number + 1) if self.lines[other].reason == "take"
                  and (other == number or self.cites_line(number, other))}
        return names

    def names_obey(self, number):
        """Point 52."""
        line = self.lines[number]
        if line.reason in ("fresh", "take"):
            made = [other.name for other in self.lines[1:number] if other.reason in ("fresh", "take")]
            if line.name in made + list(self.spoken.inputs):
                return False
        things = [thing for thing in (line.formula, line.term) if thing is not None]
        return all(name in self.usable(number) for thing in things for name in thing.names)

    def cites_obey(self, number):
        """Point 37 for all that the line cites."""
        line = self.lines[number]
        if line.reason == "induct":
            return self.cites_line(number, line.numbers[0]) and self.cites_box(number, line.numbers[1], True)
        if line.reason in ("if", "cases", "every"):
            return all(self.cites_box(number, box) for box in line.numbers)
        return all(self.cites_line(number, other) for other in line.numbers)

    def is_right(self, number):
        """Point 53."""
        if not (self.depth_obeys(number) and self.closing_obeys(number) and self.cites_obey(number)):
            return False
        if not self.names_obey(number) or (number == self.count and self.lines[number].depth != 0):
            return False
        try:
            return self.granted(number)
        except RightatlastError:
            return False

    def formula(self, number):
        """The formula of a line."""
        return self.lines[number].formula

    def granted(self, number):
        """What each reason asks of the formula."""
        line = self.lines[number]
        told, numbers, term = line.formula, line.numbers, line.term
        if line.reason in ("assume", "fresh"):
            return True
        if line.reason == "if":
            return told == self.formula(numbers[0]) >> self.formula(self.last_of(numbers[0]))
        if line.reason == "cases":
            first, second = [self.formula(self.last_of(box)) for box in numbers]
            return self.formula(numbers[1]) == ~self.formula(numbers[0]) and first == told and second == told
        if line.reason == "follows":
            return entails([self.formula(one) for one in numbers], told)
        if line.reason == "among":
            return all(one in members_of(told) for one in members_of(self.formula(numbers[0])))
        if line.reason == "order":
            return not told.quantified and order_gap(told) is None
        first = self.formula(numbers[0])
        if line.reason == "swap":
            return first.kind == "same" and is_swap(told, self.formula(numbers[1]), first.terms[0], first.terms[1])
        if line.reason == "some":
            return told.kind == "some" and first == put_letters(told.parts[0], {told.name: term})
        if line.reason == "each":
            return first.kind == "every" and told == put_letters(first.parts[0], {first.name: term})
        if line.reason == "take":
            return first.kind == "some" and told == put_letters(first.parts[0], {first.name: Term.of_name(line.name)})
        if line.reason == "least":
            return self.granted_least(line, self.lines[numbers[0]])
        if line.reason == "every":
            return self.granted_every(line)
        return self.granted_induct(line, number)

    def granted_least(self, line, taking):
        """A `least` line."""
        if taking.reason != "take":
            return False
        some = self.formula(taking.numbers[0])
        if some.parts[0].quantified:
            return False
        test = put_letters(some.parts[0], {some.name: line.term})
        return line.formula == test >> Formula.most(Term.of_name(taking.name), line.term)

    def granted_every(self, line):
        """An `every` line."""
        box = line.numbers[0]
        if self.last_of(box) == box or line.formula.kind != "every" or self.lines[box].name in line.formula.names:
            return False
        shown = put_letters(line.formula.parts[0], {line.formula.name: Term.of_name(self.lines[box].name)})
        return self.formula(self.last_of(box)) == shown

    def granted_induct(self, line, number):
        """An `induct` line."""
        first, box = line.numbers
        word = self.lines[box].name
        if box + 1 >= number or self.lines[box + 1].reason != "assume":
            return False
        if self.lines[box + 1].depth != self.lines[box].depth + 1:
            return False
        last = self.last_of(box)
        if box + 1 not in self.within(last) or self.lines[last].depth != self.lines[box + 1].depth:
            return False
        if line.term.kind == "name" and line.term.name not in self.spoken.inputs:
            return False
        told = self.formula(box + 1)
        return (self.formula(first) == put_names(told, {word: Term.of_number(0)})
                and self.formula(last) == put_names(told, {word: Term.of_name(word) + 1})
                and line.formula == put_names(told, {word: line.term}))

    def first_wrong(self):
        """The number of the first wrong line, or 0."""
        for number in range(1, self.count + 1):
            if not self.is_right(number):
                return number
        return 0

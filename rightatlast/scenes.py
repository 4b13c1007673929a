"""Values and truth of what is known to be in order: points 19, 20 and 24."""


def joined_truth(kind, truths):
    """The truth of a formula of a kind that is made of formulas with these truths."""
    if kind == "not":
        return not truths[0]
    if kind == "and":
        return truths[0] and truths[1]
    if kind == "or":
        return truths[0] or truths[1]
    return not truths[0] or truths[1]


class Scene:
    """A world, numbers for names and letters, and guesses; it notes what is read."""

    def __init__(self, world, words, table):
        self.world = world
        self.words = words
        self.table = table
        self.seen_places = {}
        self.seen_keys = {}

    def number_for(self, term):
        """The value of a term."""
        if term.kind == "number":
            return term.number
        if term.kind in ("name", "letter"):
            return self.words[term.name]
        numbers = self.numbers_for(term.parts)
        if term.kind == "sum":
            return numbers[0] + term.number
        if term.kind == "function":
            return self.read_table(term.name, numbers)
        self.seen_keys[(term.name, numbers)] = True
        return self.table.get((term.name, numbers), 0)

    def numbers_for(self, terms):
        """The tuple of the values of some terms."""
        return tuple([self.number_for(term) for term in terms])

    def read_table(self, name, numbers):
        """The value of a function or relation at some numbers."""
        place = self.world.place_of(numbers)
        self.seen_places[(name, place)] = True
        return self.world.value_at(name, place)

    def truth_for(self, formula):
        """The truth of a plain formula. All parts are gone through, also where it is clear already."""
        if len(formula.terms) > 0:
            return self.truth_for_atom(formula)
        return joined_truth(formula.kind, [self.truth_for(part) for part in formula.parts])

    def truth_for_atom(self, formula):
        """The truth of an atom."""
        numbers = self.numbers_for(formula.terms)
        if formula.kind == "same":
            return numbers[0] == numbers[1]
        if formula.kind == "most":
            return numbers[0] <= numbers[1]
        return self.read_table(formula.name, numbers)


def body_scene(world, table, numbers):
    """The scene for the body of a choice in which the parameters have the numbers of a key."""
    words = {f"p{place}": number for place, number in enumerate(numbers, start=1)}
    return Scene(world, words, table)


def body_holds(choice, scene, number):
    """True if the body of a choice holds at a number, in a scene for this body."""
    scene.words["y0"] = number
    return scene.truth_for(choice.body)


def smallest_fit(choice, scene, most):
    """The smallest number from 0 to `most` for which the body of a choice holds, or None."""
    for number in range(most + 1):
        if body_holds(choice, scene, number):
            return number
    return None

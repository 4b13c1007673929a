"""Values, truth and looks: points 17, 19 and 20."""

from rightatlast.errors import HasLetters, NotPlain
from rightatlast.inputs import check_given, check_inputs
from rightatlast.scenes import Scene


class Look:
    """What a look at a plain formula found: its truth, and what it read."""

    def __init__(self, truth, places, guess_keys):
        self.truth = truth
        self.places = tuple(places)
        self.guess_keys = tuple(guess_keys)


def _scene_for(thing, world, inputs, guesses):
    """The scene for a term, or a formula without quantifiers, after all else that is passed has been examined."""
    if len(thing.letters) > 0:
        raise HasLetters(thing.letters[0])
    world.book.fits(thing)
    check_inputs(inputs)
    check_given(thing.names, inputs)
    return Scene(world, dict(inputs), guesses.as_table())


def value_of(term, world, inputs, guesses):
    """The value of a term."""
    return _scene_for(term, world, inputs, guesses).number_for(term)


def look_at(formula, world, inputs, guesses):
    """The look at a formula."""
    if formula.quantified:
        raise NotPlain()
    scene = _scene_for(formula, world, inputs, guesses)
    truth = scene.truth_for(formula)
    return Look(truth, list(scene.seen_places), list(scene.seen_keys))


def truth_of(formula, world, inputs, guesses):
    """The truth of a formula."""
    return look_at(formula, world, inputs, guesses).truth

"""Claims of relations and their truth: point 60."""

from rightatlast.errors import NotRelational
from rightatlast.formulas import QUANTIFIERS
from rightatlast.inputs import check_given, check_inputs
from rightatlast.scenes import Scene, joined_truth

WORDS = ("name", "letter")


def _has_relations_alone(formula):
    """True if all atoms of a formula are relations of names and letters, and no quantifier is within another one."""
    if formula.kind == "holds":
        return all([term.kind in WORDS for term in formula.terms])
    if len(formula.parts) == 0 or (formula.kind in QUANTIFIERS and formula.parts[0].quantified):
        return False
    return all([_has_relations_alone(part) for part in formula.parts])


def is_relational(formula):
    """True if a formula is a claim of relations."""
    return len(formula.letters) == 0 and _has_relations_alone(formula)


def _truth_in(scene, formula):
    """The truth of a claim of relations, or of a part of one, in a scene."""
    if not formula.quantified:
        return scene.truth_for(formula)
    if formula.kind not in QUANTIFIERS:
        return joined_truth(formula.kind, [_truth_in(scene, part) for part in formula.parts])
    truths = []
    for number in range(scene.world.top + 1):
        scene.words[formula.name] = number
        truths.append(scene.truth_for(formula.parts[0]))
    return any(truths) if formula.kind == "some" else all(truths)


def holds_in(world, inputs, claim):
    """True if a claim of relations holds in a world with inputs."""
    check_inputs(inputs)
    if not is_relational(claim):
        raise NotRelational()
    world.book.fits(claim)
    check_given(claim.names, inputs)
    return _truth_in(Scene(world, dict(inputs), {}), claim)

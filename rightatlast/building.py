"""Building what a text stands for: step 5 of point 8."""

from rightatlast.formulas import Formula
from rightatlast.terms import Term

TERM_KINDS = ("number", "name", "letter", "add", "function", "choice")


def _term_of(kind, word, number, parts):
    """The term that a step builds of its parts."""
    if kind == "number":
        return Term.of_number(number)
    if kind == "name":
        return Term.of_name(word)
    if kind == "letter":
        return Term.of_letter(word)
    if kind == "add":
        return parts[0] + number
    if kind == "function":
        return Term.of_function(word, *parts)
    return Term.of_choice(word, *parts)


def _formula_of(kind, word, parts):
    """The formula that a step builds of its terms or parts."""
    if kind == "=":
        return Formula.same(parts[0], parts[1])
    if kind == "<=":
        return Formula.most(parts[0], parts[1])
    if kind == "holds":
        return Formula.holds(word, *parts)
    if kind == "not":
        return ~parts[0]
    if kind == "and":
        return parts[0] & parts[1]
    if kind == "or":
        return parts[0] | parts[1]
    if kind == "->":
        return parts[0] >> parts[1]
    if kind == "some":
        return Formula.some(word, parts[0])
    return Formula.every(word, parts[0])


def _count_of(kind, number):
    """The number of things that a step takes."""
    if kind in ("number", "name", "letter"):
        return 0
    return 1 if kind == "add" else number


def built(steps):
    """The list of what the steps of a parser build."""
    stack = []
    for kind, word, number in steps:
        start = len(stack) - _count_of(kind, number)
        parts = stack[start:]
        del stack[start:]
        if kind in TERM_KINDS:
            stack.append(_term_of(kind, word, number, parts))
        else:
            stack.append(_formula_of(kind, word, parts))
    return stack

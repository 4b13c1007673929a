"""What the tests share: how a refusal is asked for, and terms and formulas of a given size."""

import unittest

from rightatlast.formulas import Formula
from rightatlast.terms import Term


class PackageTest(unittest.TestCase):
    """A test case that can ask for one exact error with its fields."""

    def refuses(self, kind, fields, call, *arguments, **keywords):
        """The call raises an error of exactly this class, and its fields have these values."""
        try:
            result = call(*arguments, **keywords)
        except Exception as error:
            self.assertIs(type(error), kind, f"{call} raised {error!r}")
            for name in fields:
                self.assertEqual(getattr(error, name), fields[name], f"field {name}")
                self.assertIs(type(getattr(error, name)), type(fields[name]), f"field {name}")
        else:
            self.fail(f"{kind.__name__} was not raised: {result}")

    def reads_back(self, read, thing):
        """The text of a thing is read as an equal one."""
        self.assertEqual(read(thing.text), thing)
        self.assertEqual(str(thing), thing.text)


X = Term.of_name("x")


def nested_term(depth):
    """A term of a given depth."""
    term = X
    for _ in range(depth - 1):
        term = Term.of_function("f", term)
    return term


def term_of_size(size):
    """A term of a given size, which is no sum."""
    term = X
    while term.size < size:
        more = min(6, size - term.size)
        term = Term.of_choice("Ca", term, *[X] * (more - 1))
    return term


def joined(formulas):
    """The formulas of a list, joined by `and` as evenly as possible."""
    if len(formulas) == 1:
        return formulas[0]
    half = len(formulas) // 2
    return joined(formulas[:half]) & joined(formulas[half:])


def nested_formula(depth):
    """A formula of a given depth."""
    formula = Formula.same(X, X)
    for _ in range(depth - 1):
        formula = ~formula
    return formula


def term_text_of_length(length):
    """The text of a small term with this many characters, at least 110, of the function `longfunc` with two parts."""
    count = -(-(length + 12) // 40)
    leaves = ["abcdefgh"] * (2 * count)
    surplus = 40 * count - 12 - length
    for place in range(len(leaves)):
        cut = min(7, surplus)
        leaves[place] = leaves[place][cut:]
        surplus -= cut
    while len(leaves) > 1:
        pairs = [f"longfunc({first}, {second})" for first, second in zip(leaves[::2], leaves[1::2])]
        leaves = pairs + leaves[len(pairs) * 2:]
    assert len(leaves[0]) == length
    return leaves[0]

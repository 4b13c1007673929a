"""The grammar of points 8 and 21."""

from rightatlast.errors import BadText, TooLarge
from rightatlast.words import DIGITS, is_choice, is_letter, is_name, is_relation, tokens

COUNTED_WORDS = ("not", "some", "every")
MOST_COUNTED_WORDS = 100
MOST_OPEN = 40
MOST_FUNCTION_PARTS = 2
MOST_CHOICE_PARTS = 6
MOST_RELATION_TERMS = 2


def _look_of(token):
    """The kind of a token: `addend` is a number from 1 to 9; marks and reserved words are their own kinds."""
    if token[0] in DIGITS:
        return "addend" if len(token) == 1 and token != "0" else "number"
    if is_name(token):
        return "name"
    if is_letter(token):
        return "letter"
    if is_relation(token):
        return "relation"
    if is_choice(token):
        return "choice"
    return token


def _check_nesting(found):
    """Raises TooLarge by step 3 of point 8, so that no text is nested too deep to be parsed."""
    words = 0
    opened = 0
    for _, token in found:
        if token in COUNTED_WORDS:
            words += 1
        elif token == "(":
            opened += 1
        elif token == ")":
            opened = max(0, opened - 1)
        if words > MOST_COUNTED_WORDS or opened > MOST_OPEN:
            raise TooLarge()


class Parser:
    """Parses a text from left to right and notes the steps that build what it stands for.

    A step is a tuple of a kind, a word and a number. The parts are noted before
    the whole, so that nothing is built before the whole text has been parsed.
    """

    def __init__(self, text):
        self.found = tokens(text)
        _check_nesting(self.found)
        self.end = len(text)
        self.passed = 0
        self.steps = []

    def ahead(self):
        """The kind of the next token, or the empty text at the end."""
        if self.passed == len(self.found):
            return ""
        return _look_of(self.found[self.passed][1])

    def refuse(self):
        """Raises BadText, since the next token cannot continue."""
        if self.passed == len(self.found):
            raise BadText(self.end)
        raise BadText(self.found[self.passed][0])

    def take(self, *kinds):
        """Goes beyond the next token, which must be of one of these kinds, and returns it."""
        if self.ahead() not in kinds:
            self.refuse()
        self.passed += 1
        return self.found[self.passed - 1][1]

    def note(self, kind, word, number):
        """Notes a step."""
        self.steps.append((kind, word, number))

    def finish(self):
        """Refuses a token behind the whole."""
        if self.ahead() != "":
            self.refuse()

    def parse_term(self):
        """Parses `term`."""
        self.parse_base()
        if self.ahead() == "+":
            self.take("+")
            self.note("add", "", int(self.take("addend")))

    def parse_base(self):
        """Parses `base`."""
        kind = self.ahead()
        word = self.take("number", "addend", "name", "letter", "choice")
        if kind in ("number", "addend"):
            self.note("number", "", int(word))
        elif kind == "choice":
            count = self.parse_inner(MOST_CHOICE_PARTS) if self.ahead() == "(" else 0
            self.note("choice", word, count)
        elif kind == "name" and self.ahead() == "(":
            self.note("function", word, self.parse_inner(MOST_FUNCTION_PARTS))
        else:
            self.note(kind, word, 0)

    def parse_inner(self, most):
        """Parses 1 to `most` terms in parentheses and returns their number."""
        self.take("(")
        self.parse_term()
        count = 1
        while count < most and self.ahead() == ",":
            self.take(",")
            self.parse_term()
            count += 1
        self.take(")")
        return count

    def parse_formula(self):
        """Parses `formula`."""
        kind = self.ahead()
        if kind == "not":
            self.take("not")
            self.parse_formula()
            self.note("not", "", 1)
        elif kind == "(":
            self.parse_joined()
        elif kind in ("some", "every"):
            self.take(kind)
            letter = self.take("letter")
            self.take(":")
            self.parse_formula()
            self.note(kind, letter, 1)
        elif kind == "relation":
            name = self.take("relation")
            self.note("holds", name, self.parse_inner(MOST_RELATION_TERMS))
        else:
            self.parse_compared()

    def parse_joined(self):
        """Parses two formulas in parentheses with `and`, `or` or `->` between them."""
        self.take("(")
        self.parse_formula()
        joint = self.take("and", "or", "->")
        self.parse_formula()
        self.take(")")
        self.note(joint, "", 2)

    def parse_compared(self):
        """Parses two terms with `=` or `<=` between them."""
        self.parse_term()
        sign = self.take("=", "<=")
        self.parse_term()
        self.note(sign, "", 2)

    def parse_demand(self):
        """Parses `demand`."""
        self.parse_term()
        if self.ahead() == "by" and self.steps[-1][0] != "choice":
            self.refuse()
        self.take("by")
        self.parse_term()

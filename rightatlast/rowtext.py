"""Rows of texts, and what stands in them: points 2 and 18."""

from rightatlast.words import DIGITS, is_choice

MOST_KEY_NUMBERS = 6
MOST_ENTERED = 99999


def rows_of(text):
    """The list of the rows of a text."""
    return text.split("\n") if text != "" else []


def number_in(text, most):
    """The number from 0 to `most` that a text shows without leading zeros, or None if it shows none."""
    if text == "" or len(text) > len(str(most)):
        return None
    if any([one not in DIGITS for one in text]) or (text[0] == "0" and text != "0"):
        return None
    number = int(text)
    return number if number <= most else None


def key_text(name, numbers):
    """The text of a key of guesses."""
    if len(numbers) == 0:
        return name
    inner = ", ".join([str(number) for number in numbers])
    return f"{name}({inner})"


def entry_text(name, numbers, number):
    """The text of an entry of guesses."""
    return f"{key_text(name, numbers)} = {number}"


def can_be_entry(name, numbers, number):
    """True if guesses may have this entry."""
    if not is_choice(name) or len(numbers) > MOST_KEY_NUMBERS:
        return False
    return number <= MOST_ENTERED and all([one <= MOST_ENTERED for one in numbers])


def _read_key(text):
    """The name and the numbers of the text of a key, or None if it has another form."""
    name, bracket, rest = text.partition("(")
    if bracket == "":
        return (name, ())
    if not rest.endswith(")"):
        return None
    numbers = tuple([number_in(shown, MOST_ENTERED) for shown in rest[:-1].split(", ")])
    return None if None in numbers else (name, numbers)


def read_entry(text):
    """The entry `(name, numbers, number)` of a text, or None if guesses cannot have one with this text."""
    front, _, back = text.partition(" = ")
    key = _read_key(front)
    number = number_in(back, MOST_ENTERED)
    if key is None or number is None or not can_be_entry(key[0], key[1], number):
        return None
    return (key[0], key[1], number)

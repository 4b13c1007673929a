"""Words and tokens: points 4 and 8."""

from rightatlast.errors import BadText, TooLarge

SMALL = "abcdefghijklmnopqrstuvwxyz"
CAPITALS = "ABCDEFGHIJKLMNOPQRSTUVWXYZ"
DIGITS = "0123456789"
RESERVED = ("not", "and", "or", "some", "every", "by")
# The marks of two characters stand first, since `=` ends one of them.
MARKS = ("<=", "->", "(", ")", ",", "+", "=", ":")
MOST_CHARACTERS = 1000


def _spelt(text, characters, most):
    """True if a text consists of 1 to `most` of these characters."""
    return 1 <= len(text) <= most and all([one in characters for one in text])


def is_name(text):
    """True if a text is a name."""
    return _spelt(text, SMALL, 8) and text not in RESERVED


def is_letter(text):
    """True if a text is a letter."""
    return len(text) == 2 and text[0] in SMALL and text[1] in DIGITS


def is_relation(text):
    """True if a text is a relation."""
    return _spelt(text, CAPITALS, 8)


def is_choice(text):
    """True if a text is a choice."""
    return _spelt(text[:1], CAPITALS, 1) and _spelt(text[1:], SMALL, 7)


def _is_written_number(text):
    """True if a text is a number that can be a token."""
    return _spelt(text, DIGITS, 2) and (text == "0" or text[0] != "0")


def _is_word(text):
    """True if a text is a word that can be a token."""
    if text in RESERVED or _is_written_number(text):
        return True
    return is_name(text) or is_letter(text) or is_relation(text) or is_choice(text)


def _run_at(text, place):
    """The longest run of letters and digits that begins at a place, perhaps the empty text."""
    end = place
    while end < len(text) and (text[end] in SMALL or text[end] in CAPITALS or text[end] in DIGITS):
        end += 1
    return text[place:end]


def _token_at(text, place):
    """The token that begins at a place, or the empty text if none does."""
    for mark in MARKS:
        if text[place:place + len(mark)] == mark:
            return mark
    word = _run_at(text, place)
    return word if _is_word(word) else ""


def tokens(text):
    """The list of the tokens of a text, each with its place in front."""
    if len(text) > MOST_CHARACTERS:
        raise TooLarge()
    found = []
    place = 0
    while place < len(text):
        if text[place] == " ":
            place += 1
        else:
            token = _token_at(text, place)
            if token == "":
                raise BadText(place)
            found.append((place, token))
            place += len(token)
    return found

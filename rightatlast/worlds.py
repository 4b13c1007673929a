"""Worlds: points 15 and 16."""

from rightatlast.errors import BadCount, BadPlace, BadRow, TooLarge, UnknownName
from rightatlast.rowtext import number_in, rows_of

MOST_TOP = 9
MOST_VALUE = 99
MOST_ARGUMENT = 99999


def _places_of(top, count):
    """The list of the places of a table, in the order of the text."""
    if count == 1:
        return [(number,) for number in range(top + 1)]
    return [(first, second) for first in range(top + 1) for second in range(top + 1)]


def _read_top(row):
    """The top that the first row shows, or None if it has another form."""
    words = row.split(" ")
    if len(words) != 2 or words[0] != "top":
        return None
    return number_in(words[1], MOST_TOP)


def _read_table(row, name, count, most):
    """The list of the numbers of the row of a table, or None if it has another form."""
    words = row.split(" ")
    if words[0] != name or len(words) != count + 1:
        return None
    numbers = [number_in(word, most) for word in words[1:]]
    return None if None in numbers else numbers


class World:
    """A world. `World.read` and `changed` make worlds; the constructor leaves the values unexamined."""

    def __init__(self, book, top, values):
        self.book = book
        self.top = top
        self.places = tuple([(name, place) for _, name, count in book.tables for place in _places_of(top, count)])
        self._values = {pair: values[pair] for pair in self.places}
        self._counts = {name: count for _, name, count in book.tables}
        self._numeric = {name: word == "fun" for word, name, _ in book.tables}
        rows = [f"top {top}"]
        for _, name, count in book.tables:
            numbers = [str(int(values[(name, place)])) for place in _places_of(top, count)]
            rows.append(" ".join([name, *numbers]))
        self.text = "\n".join(rows)

    @classmethod
    def read(cls, book, text):
        """The world of a text, for a book."""
        rows = rows_of(text)
        top = _read_top(rows[0]) if len(rows) > 0 else None
        if top is None:
            raise BadRow(1)
        values = {}
        for number, (word, name, count) in enumerate(book.tables, start=2):
            if number > len(rows):
                raise BadRow(number)
            places = _places_of(top, count)
            numbers = _read_table(rows[number - 1], name, len(places), MOST_VALUE if word == "fun" else 1)
            if numbers is None:
                raise BadRow(number)
            for place, value in zip(places, numbers):
                values[(name, place)] = value if word == "fun" else value == 1
        if len(rows) > len(book.tables) + 1:
            raise BadRow(len(book.tables) + 2)
        return cls(book, top, values)

    def place_of(self, numbers):
        """The place at which the value at some numbers is found."""
        return tuple([min(number, self.top) for number in numbers])

    def value_at(self, name, place):
        """The value of a function or relation at one of its places."""
        return self._values[(name, place)]

    def at(self, name, *numbers):
        """The value of a function or relation at some numbers."""
        if name not in self._counts:
            raise UnknownName(name)
        if len(numbers) != self._counts[name]:
            raise BadCount(name)
        if any([number > MOST_ARGUMENT for number in numbers]):
            raise TooLarge()
        return self.value_at(name, self.place_of(numbers))

    def changed(self, name, place, value):
        """The world with another value of a function or relation at one place."""
        if name not in self._counts:
            raise UnknownName(name)
        if (name, tuple(place)) not in self._values:
            raise BadPlace(place)
        if self._numeric[name] and value > MOST_VALUE:
            raise TooLarge()
        values = {pair: self._values[pair] for pair in self.places}
        values[(name, tuple(place))] = value
        return World(self.book, self.top, values)

    def __eq__(self, other):
        return isinstance(other, World) and self.text == other.text

    def __str__(self):
        return str(self.text)

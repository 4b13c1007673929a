"""Guesses: point 18."""

from rightatlast.errors import BadEntry, BadRow, Clash, Standing, TooLarge
from rightatlast.rowtext import can_be_entry, entry_text, read_entry, rows_of

MOST_ENTRIES = 5000


class Guesses:
    """A finite map from keys, choices with numbers, to numbers."""

    def __init__(self, rows):
        if len(rows) > MOST_ENTRIES:
            raise TooLarge()
        table = {}
        for entry, (name, numbers, number) in enumerate(rows, start=1):
            if not can_be_entry(name, numbers, number) or (name, numbers) in table:
                raise BadEntry(entry)
            table[(name, numbers)] = number
        self._table = table
        self.rows = tuple([(name, numbers, table[(name, numbers)]) for name, numbers in sorted(list(table))])
        self.text = "\n".join([entry_text(name, numbers, number) for name, numbers, number in self.rows])

    @classmethod
    def read(cls, text):
        """The guesses of a text."""
        rows = rows_of(text)
        if len(rows) > MOST_ENTRIES:
            raise TooLarge()
        table = {}
        for row, shown in enumerate(rows, start=1):
            entry = read_entry(shown)
            if entry is None or entry[:2] in table:
                raise BadRow(row)
            table[entry[:2]] = entry
        return cls(list(table.values()))

    def as_table(self):
        """A new dict from the keys to the guesses."""
        return {key: self._table[key] for key in self._table}

    def at(self, name, numbers):
        """The guess at a key."""
        return self._table.get((name, numbers), 0)

    def has(self, name, numbers):
        """True if there is an entry at a key."""
        return (name, numbers) in self._table

    def added(self, name, numbers, number):
        """The guesses with one more entry."""
        if not can_be_entry(name, numbers, number):
            raise BadEntry(1)
        if self.has(name, numbers):
            raise Standing(name, numbers)
        return Guesses([*self.rows, (name, numbers, number)])

    def without(self, names):
        """The guesses without the entries of the choices of a list."""
        return Guesses([row for row in self.rows if row[0] not in names])

    def within(self, other):
        """True if each entry is also one of other guesses, with the same number."""
        table = other.as_table()
        return all([table.get((name, numbers)) == number for name, numbers, number in self.rows])

    def __or__(self, other):
        for name, numbers, number in self.rows:
            if other.has(name, numbers) and other.at(name, numbers) != number:
                raise Clash(name, numbers)
        more = [row for row in other.rows if not self.has(row[0], row[1])]
        return Guesses(list(self.rows) + more)

    def __len__(self):
        return len(self.rows)

    def __iter__(self):
        return iter(self.rows)

    def __eq__(self, other):
        return isinstance(other, Guesses) and self.text == other.text

    def __str__(self):
        return str(self.text)

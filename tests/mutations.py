"""Random changes of the rows of spoken derivations."""

import re

WORDS = ["x", "k", "w", "n", "a", "b", "z", "v", "j", "m", "0", "1"]
REASONS = ["assume", "order", "if {}", "among {}", "cases {} {}", "swap {} {}", "follows {}", "follows {} {}", "every {}"]


def with_another_number(source, reason):
    """A reason with one of its numbers a little changed."""
    numbers = list(re.finditer(r"\b\d+\b", reason))
    if not numbers:
        return reason
    one = source.choice(numbers)
    return reason[:one.start()] + str(max(1, int(one.group()) + source.choice([-2, -1, 1, 2, 3]))) + reason[one.end():]


def some_reason(source, count):
    """A random reason for one of so many lines."""
    numbers = [str(source.randrange(1, count + 2)) for _ in range(2)]
    kinds = REASONS + [f"take {{}} as {source.choice(WORDS[:10])}", f"some {{}} by {source.choice(WORDS)}",
                       f"each {{}} at {source.choice(WORDS)}", f"least {{}} by {source.choice(WORDS)}",
                       f"induct {{}} {{}} to {source.choice(WORDS)}"]
    return source.choice(kinds).format(*numbers)


def with_another_word(source, row):
    """A row with another word at one of the places of names of one letter."""
    words = list(re.finditer(r"\b[a-z]\b", row))
    if not words:
        return row
    one = source.choice(words)
    return row[:one.start()] + source.choice(WORDS) + row[one.end():]


def with_another_formula(row, other):
    """A row with the formula of another one."""
    if " ; " not in row or " ; " not in other:
        return row
    bars = row[:len(row) - len(row.lstrip("| "))]
    return bars + other.rpartition(" ; ")[0].lstrip("| ") + " ; " + row.rpartition(" ; ")[2]


def mutated(source, rows, inputs):
    """The rows and inputs with one random change."""
    rows = list(rows)
    inputs = list(inputs)
    place = source.randrange(len(rows))
    row = rows[place]
    front, sign, reason = row.rpartition(" ; ")
    kind = source.randrange(11)
    if kind == 0:
        rows[place] = "| " + row
    elif kind == 1:
        rows[place] = row[2:] if row.startswith("| ") else row
    elif kind == 2 and sign:
        rows[place] = front + sign + with_another_number(source, reason)
    elif kind == 3 and len(rows) > 1:
        del rows[place]
    elif kind == 4:
        rows.insert(source.randrange(len(rows) + 1), row)
    elif kind == 5:
        other = source.randrange(len(rows))
        rows[place], rows[other] = rows[other], rows[place]
    elif kind == 6:
        rows[place] = with_another_word(source, row)
    elif kind == 7 and sign:
        rows[place] = front + sign + some_reason(source, len(rows))
    elif kind == 8:
        rows.insert(place, "| " * source.randrange(5) + "fresh " + source.choice(WORDS[:10]))
    elif kind == 9:
        inputs = list(dict.fromkeys(inputs + [source.choice(WORDS[:10])])) if source.randrange(2) else inputs[:-1]
    else:
        rows[place] = with_another_formula(row, source.choice(rows))
    return rows, inputs

"""Lists without repetitions."""


def once(words):
    """The different ones of a list of strings or tuples of strings and numbers, each where it occurs first."""
    found = {}
    for word in words:
        found[word] = True
    return tuple(found)


def once_by_text(things):
    """The objects of a list with different texts, each where its text occurs first."""
    found = {}
    for thing in things:
        if thing.text not in found:
            found[thing.text] = thing
    return tuple(found.values())

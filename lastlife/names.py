"""Rows of names in which each name stands once."""


def each_once(names):
    """Return the tuple of the names, each at its first place."""
    found = {}
    for name in names:
        found[name] = True
    return tuple(list(found))

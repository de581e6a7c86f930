"""Copies, so that no returned list is one that was passed in."""


def copied(thing):
    """Return a list with all lists in it copied, and anything else as it is."""
    if not isinstance(thing, list):
        return thing
    return [copied(part) for part in thing]

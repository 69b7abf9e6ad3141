"""The kinds of values that several files ask for."""


def is_plain_integer(thing):
    """Tell whether a thing is an integer, and neither True nor False."""
    return isinstance(thing, int) and not isinstance(thing, bool)

"""What several files ask of values of any kind."""


def is_whole(value):
    """Tell whether a value is an integer."""
    # Python counts True and False as 1 and 0; the document does not.
    return isinstance(value, int) and not isinstance(value, bool)


def is_within(value, least, greatest):
    """Tell whether a value is an integer from least to greatest."""
    return is_whole(value) and least <= value <= greatest


def is_tuple_of(value, length):
    """Tell whether a value is a tuple with so many items."""
    return isinstance(value, tuple) and len(value) == length

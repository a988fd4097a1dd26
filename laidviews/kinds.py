"""What several files ask of values of any kind."""


def is_within(value, least, greatest):
    """Tell whether a value is an integer from least to greatest."""
    # Python counts True and False as 1 and 0; the document does not.
    if not isinstance(value, int) or isinstance(value, bool):
        return False
    return least <= value <= greatest


def is_tuple_of(value, length):
    """Tell whether a value is a tuple with so many items."""
    return isinstance(value, tuple) and len(value) == length

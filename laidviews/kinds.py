"""What several files ask of values of any kind, and the order of cells."""


def is_whole(value):
    """Tell whether a value is an integer."""
    # Python counts True and False as 1 and 0; the document does not.
    return isinstance(value, int) and not isinstance(value, bool)


def is_within(value, least, greatest):
    """Tell whether a value is an integer from least to greatest."""
    return is_whole(value) and least <= value <= greatest


def is_tuple_of(value, length):
    """Tell whether a value is a tuple with so many items."""
    return isinstance(value, tuple) and len(value) == length


def is_cell(value):
    """Tell whether a value is a pair of integers."""
    return is_tuple_of(value, 2) and is_whole(value[0]) and is_whole(value[1])


def has_cells(value, cells):
    """Tell whether a value is a dict that has just these cells as its keys."""
    if not isinstance(value, dict) or len(value) != len(cells):
        return False
    # Also a key like (True, 0), which is found among the cells as (1, 0), is none of them.
    return all([is_cell(key) and key in cells for key in value])


def in_rows(cells):
    """Return the list of the cells, ascending by y and then by x."""
    return sorted(cells, key=lambda cell: (cell[1], cell[0]))

"""Views: small pictures of parts of the ground."""

from laidviews.errors import Misused
from laidviews.kinds import is_tuple_of, is_within

# Written out, because isalpha and isdigit also take signs beyond ASCII.
LETTERS = "abcdefghijklmnopqrstuvwxyz"
DIGITS = "0123456789"

LONGEST_NAME = 8
GREATEST_READING = 999
MOST_ROWS = 12
MOST_COLUMNS = 12


def is_name(value):
    """Tell whether a value of any kind is the name of a view."""
    if not isinstance(value, str) or not 1 <= len(value) <= LONGEST_NAME:
        return False
    return value[0] in LETTERS and all([sign in LETTERS or sign in DIGITS for sign in value])


def is_reading(value):
    """Tell whether a value of any kind is a reading; None is one."""
    return value is None or is_within(value, 0, GREATEST_READING)


def _is_row(value):
    if not isinstance(value, tuple) or not 1 <= len(value) <= MOST_COLUMNS:
        return False
    return all([is_reading(reading) for reading in value])


def _is_rows(value):
    if not isinstance(value, tuple) or not 1 <= len(value) <= MOST_ROWS:
        return False
    if not all([_is_row(row) for row in value]):
        return False
    return all([len(row) == len(value[0]) for row in value])


def is_view(value):
    """Tell whether a value of any kind is a view."""
    return is_tuple_of(value, 2) and is_name(value[0]) and _is_rows(value[1])


def size(view):
    """Return the pair of the width and the height of a view."""
    rows = view[1]
    return (len(rows[0]), len(rows))


def readings(view):
    """Return the triples (x, y, reading) of all readings that are not None, row by row."""
    found = []
    for y, row in enumerate(view[1]):
        for x, reading in enumerate(row):
            if reading is not None:
                found.append((x, y, reading))
    return found


def _moved_reading(reading, light):
    if reading is None:
        return None
    moved = reading + light
    if not is_reading(moved):
        raise Misused("light")
    return moved


def moved_light(view, light):
    """Return the view with this integer added to all its readings."""
    name, rows = view
    return (name, tuple([tuple([_moved_reading(reading, light) for reading in row]) for row in rows]))

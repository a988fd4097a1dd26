"""Fits: the shifts and lights at which two views differ in few readings only."""

from laidviews.album import FARTHEST
from laidviews.errors import Misused
from laidviews.pictures import readings


def overlap(one, two, dx, dy):
    """Return the triples (x, y, difference) of the cells that overlap at a shift, row by row."""
    seen = {(x, y): reading for x, y, reading in readings(one)}
    found = []
    for x, y, reading in readings(two):
        cell = (x + dx, y + dy)
        if cell in seen:
            found.append((x, y, reading - seen[cell]))
    return found


def _tallies(one, two):
    """Return the dict from the shifts with an overlap to dicts: how many cells have which difference."""
    tallies = {}
    for x, y, reading in readings(one):
        for other_x, other_y, other_reading in readings(two):
            tally = tallies.setdefault((x - other_x, y - other_y), {})
            light = other_reading - reading
            tally[light] = tally.get(light, 0) + 1
    return tallies


def fits(one, two, *, reach, errors, least):
    """Return all fits with shifts within reach, at most so many errors and so many cells at least, ascending."""
    if not 0 <= reach <= FARTHEST:
        raise Misused("reach")
    if errors < 0 or least <= errors:
        raise Misused("errors")
    found = []
    for (dx, dy), tally in _tallies(one, two).items():
        many = sum(tally.values())
        # A light that no cell has is wrong at all of them, and these are more than the errors.
        wrongs = {light: many - tally[light] for light in tally}
        if max(abs(dx), abs(dy)) <= reach and many >= least:
            found.extend([(dx, dy, light, wrongs[light]) for light in wrongs if wrongs[light] <= errors])
    return sorted(found)


def link_of(one, two, fit):
    """Return the link of a fit of two views."""
    return (one[0], two[0]) + fit[:3]

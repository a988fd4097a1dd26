"""Gathered grounds: what all views of a group tell of each cell of the ground."""

from laidviews.kinds import in_rows
from laidviews.pictures import readings


def picture_of(view, place):
    """Return the dict from the cells of the ground to the values that a view tells at a place."""
    px, py, light = place[1:]
    return {(px + x, py + y): reading - light for x, y, reading in readings(view)}


def gather(album, laying, group):
    """Return the gathered ground of the group with this number."""
    told = {}
    for view in album.views():
        name = view[0]
        if laying[name][0] == group:
            for cell, value in picture_of(view, laying[name]).items():
                told.setdefault(cell, []).append((name, value))
    return {cell: tuple(told[cell]) for cell in in_rows(told)}


def bounds(ground):
    """Return (least x, least y, greatest x, greatest y) of the cells, or None without cells."""
    if not ground:
        return None
    columns = [cell[0] for cell in ground]
    rows = [cell[1] for cell in ground]
    return (min(columns), min(rows), max(columns), max(rows))


def values_at(ground, cell):
    """Return the different values told for a cell, ascending."""
    return sorted({pair[1] for pair in ground.get(cell, ())})

"""Quilts: pictures that are laid over one another, each along a narrow seam."""

from laidviews.errors import Clashing
from laidviews.ground import bounds
from laidviews.kinds import in_rows
from laidviews.seam import cost, narrow_seam, seam_paper


def values(lying):
    """Return the picture that lies."""
    return {cell: value for cell, (_, value) in lying.items()}


def lay_over(lying, layer, choice):
    """Return what lies when a layer is laid by a choice over what lies so far."""
    name, picture = layer
    found = {cell: lying[cell] for cell in lying}
    for cell in picture:
        if cell not in lying or choice[cell] == 1:
            found[cell] = (name, picture[cell])
    return {cell: found[cell] for cell in in_rows(found)}


def _check_names(layers):
    seen = {}
    for name, _ in layers:
        if name in seen:
            raise Clashing(name)
        seen[name] = True


def quilt(layers):
    """Return what lies when all layers are laid, and the list of the steps."""
    _check_names(layers)
    lying = {}
    steps = []
    for at, layer in enumerate(layers):
        name, picture = layer
        base = values(lying)
        choice = narrow_seam(base, picture)
        if at > 0:
            steps.append((name, cost(base, picture, choice), seam_paper(base, picture, (), choice)))
        lying = lay_over(lying, layer, choice)
    return (lying, steps)


def shares(lying):
    """Return the dict from the names that are shown to the numbers of their cells, by their first cells."""
    counts = {}
    for name, _ in lying.values():
        counts[name] = counts.get(name, 0) + 1
    return counts


def quilt_rows(lying):
    """Return the tuple of the rows of what lies, with None where nothing lies."""
    if not lying:
        return ()
    picture = values(lying)
    left, top, right, bottom = bounds(lying)
    return tuple([tuple([picture.get((x, y)) for x in range(left, right + 1)]) for y in range(top, bottom + 1)])

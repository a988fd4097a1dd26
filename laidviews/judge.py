"""The judge of layings, of rings and of cells: it accepts papers that tell the truth, and no others."""

from laidviews.kinds import has_cells, is_cell, is_tuple_of, is_whole, is_within
from laidviews.laying import ORIGIN, groups, keeps, ring_sum
from laidviews.sure import best, false_readings, is_sure, least_cost, two_grounds


def _is_paper(value, kind, length):
    """Tell whether a value is a tuple with so many items that begins with this word."""
    return is_tuple_of(value, length) and isinstance(value[0], str) and value[0] == kind


def _is_place(value):
    return is_tuple_of(value, 4) and all([is_whole(number) for number in value])


def _places_all(album, laying):
    """Tell whether a value is a dict from just the names of the views to places."""
    names = album.names()
    if not isinstance(laying, dict) or len(laying) != len(names):
        return False
    return all([name in laying and _is_place(laying[name]) for name in names])


def _places_group(laying, names, number):
    """Tell whether the places of a group have its number, and begin at its first view."""
    if laying[names[0]][1:] != ORIGIN:
        return False
    return all([laying[name][0] == number for name in names])


def _is_laying(album, laying):
    if not _places_all(album, laying):
        return False
    if not all([_places_group(laying, names, album.index(names[0])) for names in groups(album)]):
        return False
    return all([keeps(laying, link) for link in album.links()])


def _is_step(value, many):
    """Tell whether a value is a step over one of so many links."""
    if not is_tuple_of(value, 2) or not is_within(value[0], 0, many - 1):
        return False
    return value[1] is True or value[1] is False


def _ends(link, forward):
    """Return the views at which a step over a link begins and ends."""
    one, two = link[:2]
    return (one, two) if forward else (two, one)


def _is_ring(album, ring):
    links = album.links()
    if not isinstance(ring, tuple) or not ring:
        return False
    if not all([_is_step(step, len(links)) for step in ring]):
        return False
    ends = [_ends(links[number], forward) for number, forward in ring]
    # The index -1 is that of the last step: it ends where the first one begins.
    return all([ends[at - 1][1] == ends[at][0] for at in range(len(ends))])


def judges(album, value):
    """Tell whether a value of any kind is an accepted paper of the album."""
    if _is_paper(value, "laid", 2):
        return _is_laying(album, value[1])
    if _is_paper(value, "ring", 2):
        return _is_ring(album, value[1]) and ring_sum(album, value[1]) != ORIGIN
    return False


def _is_explanation(ground, faults, integers):
    if not has_cells(integers, ground) or not all([is_whole(integers[cell]) for cell in ground]):
        return False
    return len(false_readings(ground, integers)) <= faults


def _is_surely(ground, faults, cell, value):
    """Tell whether the first of two values of any kind is a cell that is surely seen with the second one."""
    if not is_cell(cell) or cell not in ground or not is_whole(value):
        return False
    return value == best(ground, cell) and is_sure(ground, faults, cell)


def _is_open(ground, faults, cell, pair):
    """Tell whether a pair of values are explanations that differ at a cell of the ground."""
    if not is_cell(cell) or cell not in ground:
        return False
    if not all([_is_explanation(ground, faults, integers) for integers in pair]):
        return False
    first, second = pair
    return first[cell] != second[cell]


def judges_cell(ground, faults, value):
    """Tell whether a value of any kind is an accepted paper of the ground and so many false readings."""
    if _is_paper(value, "sure", 3):
        return _is_surely(ground, faults, value[1], value[2])
    if _is_paper(value, "open", 4):
        return _is_open(ground, faults, value[1], value[2:])
    return _is_paper(value, "none", 1) and least_cost(ground) > faults


def cell_paper(ground, faults, cell):
    """Return the paper of a cell of the ground."""
    if least_cost(ground) > faults:
        return ("none",)
    if is_sure(ground, faults, cell):
        return ("sure", cell, best(ground, cell))
    return ("open", cell) + two_grounds(ground, faults, cell)

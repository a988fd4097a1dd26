"""Surely seen cells: those that have one value in every explanation of a gathered ground."""

from laidviews.errors import Misused


def cost(ground, cell, value):
    """Return the cost of an integer at a cell: how many told values differ from it."""
    return len([told for _, told in ground[cell] if told != value])


def _tally(ground, cell):
    """Return the dict from the values that are told for a cell to how often they are told."""
    tally = {}
    for _, told in ground[cell]:
        tally[told] = tally.get(told, 0) + 1
    return tally


def _most_told(tally):
    """Return the value that is told most often, which costs least, and for equal costs the least one."""
    return min(tally, key=lambda value: (-tally[value], value))


def best(ground, cell):
    """Return the best integer of a cell."""
    # What is told nowhere at the cell costs more than any told value.
    return _most_told(_tally(ground, cell))


def _least_untold(tally):
    value = 0
    while value in tally:
        value += 1
    return value


def other(ground, cell):
    """Return the best integer of a cell other than the best one."""
    tally = _tally(ground, cell)
    # Of all integers that are not told the document takes the least one from 0 on.
    tally[_least_untold(tally)] = 0
    del tally[best(ground, cell)]
    return _most_told(tally)


def _added_cost(ground, cell):
    """Return how much more a ground costs at least if a cell does not have its best integer."""
    return cost(ground, cell, other(ground, cell)) - cost(ground, cell, best(ground, cell))


def least_cost(ground):
    """Return the least cost of the ground: the sum of the least costs of its cells."""
    return sum([len(ground[cell]) - max(_tally(ground, cell).values()) for cell in ground])


def is_sure(ground, faults, cell):
    """Tell whether a cell of the ground is surely seen."""
    return 0 <= faults - least_cost(ground) < _added_cost(ground, cell)


def sure(ground, faults):
    """Return the dict from the surely seen cells to their values, or None without an explanation."""
    spare = faults - least_cost(ground)
    if spare < 0:
        return None
    return {cell: best(ground, cell) for cell in ground if spare < _added_cost(ground, cell)}


def plain_ground(ground):
    """Return the dict that gives each cell its best integer."""
    return {cell: best(ground, cell) for cell in ground}


def two_grounds(ground, faults, cell):
    """Return two explanations that differ at a cell that is not surely seen."""
    if least_cost(ground) > faults:
        raise Misused("none")
    if is_sure(ground, faults, cell):
        raise Misused("sure")
    second = plain_ground(ground)
    second[cell] = other(ground, cell)
    return (plain_ground(ground), second)


def false_readings(ground, values):
    """Return the pairs (cell, name) of the told values that differ from these integers."""
    return [(cell, name) for cell, pairs in ground.items() for name, told in pairs if told != values[cell]]

"""Surely seen cells: those that have one value in every explanation of a gathered ground."""

from laidviews.errors import Misused
from laidviews.ground import values_at


def cost(ground, cell, value):
    """Return the cost of an integer at a cell: how many told values differ from it."""
    return len([told for _, told in ground[cell] if told != value])


def _cheapest(ground, cell, integers):
    """Return the one with the least cost at a cell, and for equal costs the least one."""
    return min(integers, key=lambda value: (cost(ground, cell, value), value))


def _least_untold(told):
    value = 0
    while value in told:
        value += 1
    return value


def best(ground, cell):
    """Return the best integer of a cell."""
    # What is told nowhere at the cell costs more than any told value.
    return _cheapest(ground, cell, values_at(ground, cell))


def other(ground, cell):
    """Return the best integer of a cell other than the best one."""
    told = values_at(ground, cell)
    first = best(ground, cell)
    # Of all integers that are not told the document takes the least one from 0 on.
    return _cheapest(ground, cell, [value for value in told if value != first] + [_least_untold(told)])


def _added_cost(ground, cell):
    """Return how much more a ground costs at least if a cell does not have its best integer."""
    return cost(ground, cell, other(ground, cell)) - cost(ground, cell, best(ground, cell))


def least_cost(ground):
    """Return the least cost of the ground: the sum of the least costs of its cells."""
    return sum([cost(ground, cell, best(ground, cell)) for cell in ground])


def sure(ground, faults):
    """Return the dict from the surely seen cells to their values, or None without an explanation."""
    spare = faults - least_cost(ground)
    if spare < 0:
        return None
    return {cell: best(ground, cell) for cell in ground if _added_cost(ground, cell) > spare}


def plain_ground(ground):
    """Return the dict that gives each cell its best integer."""
    return {cell: best(ground, cell) for cell in ground}


def two_grounds(ground, faults, cell):
    """Return two explanations that differ at a cell that is not surely seen."""
    spare = faults - least_cost(ground)
    if spare < 0:
        raise Misused("none")
    if _added_cost(ground, cell) > spare:
        raise Misused("sure")
    second = plain_ground(ground)
    second[cell] = other(ground, cell)
    return (plain_ground(ground), second)


def false_readings(ground, values):
    """Return the pairs (cell, name) of the told values that differ from these integers."""
    return [(cell, name) for cell, pairs in ground.items() for name, told in pairs if told != values[cell]]

"""Seams: choices of two pictures, one over the other, of which no other choice costs less."""

from laidviews.errors import Misused
from laidviews.flow import greatest_flow, narrow_side, wide_side, worth
from laidviews.kinds import has_cells, in_rows, is_within

OVER_NODE = 0
BASE_NODE = 1
FIRST_FREE_NODE = 2


def overlap(base, over):
    """Return the list of the cells that both pictures have, row by row."""
    return in_rows([cell for cell in over if cell in base])


def difference(base, over, cell):
    """Return by how much the two values of a cell differ; 0 where there are not two."""
    if cell in base and cell in over:
        return abs(base[cell] - over[cell])
    return 0


def _cells(base, over):
    """Return the list of the cells of either picture, row by row."""
    return in_rows(list(base) + [cell for cell in over if cell not in base])


def neighbours(base, over):
    """Return all pairs of neighbours, by their first cells, the pair to the right before the one below."""
    pairs = []
    for x, y in _cells(base, over):
        for other in ((x + 1, y), (x, y + 1)):
            if other in base or other in over:
                pairs.append(((x, y), other))
    return pairs


def _pair_cost(base, over, pair):
    """Return what a pair of neighbours costs that show different pictures."""
    return sum([difference(base, over, cell) for cell in pair])


def _shows_over(base, over, choice, cell):
    """Tell whether a cell of either picture shows the one that lies over the base."""
    if cell in base and cell in over:
        return choice[cell] == 1
    return cell in over


def cost(base, over, choice):
    """Return the cost of a choice."""
    total = 0
    for one, two in neighbours(base, over):
        if _shows_over(base, over, choice, one) != _shows_over(base, over, choice, two):
            total += _pair_cost(base, over, (one, two))
    return total


def shown(base, over, choice):
    """Return the picture that a choice shows, its cells row by row."""
    found = {}
    for cell in _cells(base, over):
        found[cell] = over[cell] if _shows_over(base, over, choice, cell) else base[cell]
    return found


def _check_bound(base, over, bound):
    for cell in bound:
        if cell not in base or cell not in over or not is_within(bound[cell], 0, 1):
            raise Misused("bound")


def _free_cells(base, over, bound):
    """Return the list of the cells of the overlap that are not bound, row by row."""
    return [cell for cell in overlap(base, over) if cell not in bound]


def _nodes(base, over, bound):
    """Return the dict from the cells of either picture to their nodes."""
    nodes = {cell: OVER_NODE if cell in over else BASE_NODE for cell in _cells(base, over)}
    for cell in bound:
        nodes[cell] = OVER_NODE if bound[cell] == 1 else BASE_NODE
    for number, cell in enumerate(_free_cells(base, over, bound)):
        nodes[cell] = FIRST_FREE_NODE + number
    return nodes


def net_of(base, over, bound):
    """Return the net whose least sides are the seams: the number of nodes and the list of edges."""
    _check_bound(base, over, bound)
    nodes = _nodes(base, over, bound)
    edges = []
    for one, two in neighbours(base, over):
        if nodes[one] != nodes[two]:
            edges.append((nodes[one], nodes[two], _pair_cost(base, over, (one, two))))
    return (FIRST_FREE_NODE + len(_free_cells(base, over, bound)), edges)


def _choice_of(base, over, bound, side):
    """Return the choice that shows the over picture at the cells whose nodes are in a side."""
    nodes = _nodes(base, over, bound)
    return {cell: 1 if nodes[cell] in side else 0 for cell in overlap(base, over)}


def narrow_seam(base, over, bound=()):
    """Return the seam whose cells with 1 all other seams have, too."""
    count, edges = net_of(base, over, bound)
    return _choice_of(base, over, bound, narrow_side(count, edges, greatest_flow(count, edges)))


def wide_seam(base, over, bound=()):
    """Return the seam that has 1 at all cells at which any seam has it."""
    count, edges = net_of(base, over, bound)
    return _choice_of(base, over, bound, wide_side(count, edges, greatest_flow(count, edges)))


def choice_flaw(base, over, bound, choice):
    """Return "cells", "choice" or "bound" for what a choice lacks first, or None if it keeps the bound cells."""
    if not has_cells(choice, {cell: True for cell in overlap(base, over)}):
        return "cells"
    if not all([is_within(value, 0, 1) for value in choice.values()]):
        return "choice"
    if any([choice.get(cell) != bound[cell] for cell in bound]):
        return "bound"
    return None


def seam_paper(base, over, bound, choice):
    """Return the paper of a seam: a copy of it, and a greatest flow of the net as a tuple."""
    count, edges = net_of(base, over, bound)
    if choice_flaw(base, over, bound, choice) is not None:
        raise Misused("choice")
    flow = greatest_flow(count, edges)
    if worth(edges, flow) != cost(base, over, choice):
        raise Misused("choice")
    return ({cell: choice[cell] for cell in choice}, tuple(flow))

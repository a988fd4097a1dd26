"""Answers found plainly, by trying everything, with which several tests compare."""

import itertools

# Told nowhere in the grounds of the tests: two of them, so that all may be other than a told value.
UNTOLD = (-1000, 1000)


def wrongs(ground, values):
    """How many told values differ, counted plainly."""
    total = 0
    for cell in ground:
        for _, told in ground[cell]:
            total += int(told != values[cell])
    return total


def explanations(ground, faults):
    """All explanations, tried one by one, that use told values and two others."""
    cells = list(ground)
    choices = [sorted({told for _, told in ground[cell]}) + list(UNTOLD) for cell in cells]
    for integers in itertools.product(*choices):
        values = dict(zip(cells, integers))
        if wrongs(ground, values) <= faults:
            yield values


def plainly_sure(ground, faults):
    """The surely seen cells, from all explanations."""
    found = list(explanations(ground, faults))
    if not found:
        return None
    return {cell: found[0][cell] for cell in ground if len({values[cell] for values in found}) == 1}


def by_rows(cells):
    """The cells ascending by y and then by x."""
    return sorted(cells, key=lambda cell: (cell[1], cell[0]))


def plain_pairs(base, over):
    """All pairs of neighbours in two pictures, each cell of either tried with each."""
    cells = by_rows(base.keys() | over.keys())
    found = []
    for x, y in cells:
        for other in ((x + 1, y), (x, y + 1)):
            found.extend(((x, y), cell) for cell in cells if cell == other)
    return found


def plain_difference(base, over, cell):
    return abs(base[cell] - over[cell]) if cell in base.keys() & over.keys() else 0


def plain_shows(base, over, choice, cell):
    """1 if a cell shows the over picture, otherwise 0."""
    return choice[cell] if cell in choice else int(cell in over)


def plain_cost(base, over, choice):
    """The cost of a choice, pair by pair."""
    total = 0
    for one, two in plain_pairs(base, over):
        if plain_shows(base, over, choice, one) != plain_shows(base, over, choice, two):
            total += plain_difference(base, over, one) + plain_difference(base, over, two)
    return total


def choices_of(base, over, bound):
    """All choices that keep the bound cells, a dict or ()."""
    cells = by_rows(base.keys() & over.keys())
    for shown in itertools.product((0, 1), repeat=len(cells)):
        choice = dict(zip(cells, shown))
        if all(choice[cell] == bound[cell] for cell in bound):
            yield choice


def seams_of(base, over, bound):
    """The least cost of all choices that keep the bound cells, and the list of the choices that have it."""
    choices = list(choices_of(base, over, bound))
    costs = [plain_cost(base, over, choice) for choice in choices]
    least = min(costs)
    return least, [choice for choice, price in zip(choices, costs) if price == least]


def ones(choice):
    return {cell for cell in choice if choice[cell] == 1}

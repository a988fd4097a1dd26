"""Values that several tests use."""

import random

from laidviews.album import Album

# Values that are no name, no view and no link, and as numbers not in any range.
JUNK = [
    True,
    False,
    1.0,
    0.5,
    float("nan"),
    float("inf"),
    10 ** 40,
    -(10 ** 40),
    1j,
    "",
    "A",
    " ",
    b"",
    b"a",
    (),
    [],
    {},
    set(),
    frozenset(),
    (None,),
    [1],
    {"a": 1},
    object(),
    int,
    len,
    NotImplemented,
    ...,
]


class Touchy:
    """A value that must not be compared or measured."""

    def __eq__(self, other):
        raise AssertionError("compared")

    def __len__(self):
        raise AssertionError("measured")

    def __bool__(self):
        raise AssertionError("tested")

    def __lt__(self, other):
        raise AssertionError("ordered")

    __le__ = __gt__ = __ge__ = __lt__
    __hash__ = None


def names_of(count):
    """As many different names."""
    return [f"n{number}" for number in range(count)]


def album_with(views, links):
    """An album with these views and links."""
    album = Album()
    for view in views:
        album.add_view(view)
    for link in links:
        album.add_link(link)
    return album


def linked(names, links):
    """An album with these links between small views of these names, separated by spaces."""
    return album_with([(name, ((1,),)) for name in names.split()], links)


def random_link(source, names, most):
    """A link between two of the names, whose numbers are at most so far from 0."""
    one, two = source.sample(names, 2)
    return (one, two, *[source.randint(-most, most) for _ in range(3)])


def small_albums(count, seed):
    """As many albums of at most 5 views and 7 links, some barred and some not, the same each time."""
    source = random.Random(seed)
    for _ in range(count):
        names = source.sample("abcde", source.randint(2, 5))
        links = [random_link(source, names, 1 if source.random() < 0.3 else 0) for _ in range(source.randint(0, 7))]
        yield linked(" ".join(names), links)


def ground_of(cells):
    """A ground that tells these values, for each cell a list: the first of view a, the next of b .."""
    return {cell: tuple(zip("abcdefghijklmnopqrstuvwxyz0123", told)) for cell, told in cells.items()}


def random_grounds(count, seed):
    """As many grounds of at most 3 cells with one to five told values each, the same each time."""
    source = random.Random(seed)
    for _ in range(count):
        cells = sorted({(source.randint(-2, 2), source.randint(-1, 1)) for _ in range(source.randint(0, 3))})
        greatest = source.choice([0, 1, 1, 2, 4])
        told = [[source.randint(0, greatest) for _ in range(source.randint(1, 5))] for _ in cells]
        yield ground_of(dict(zip(sorted(cells, key=lambda cell: (cell[1], cell[0])), told)))


def picture(text, left=0, top=0):
    """A picture whose rows are the lines of a text, numbers and dots for holes; its first cell is at (left, top)."""
    rows = [line.split() for line in text.strip().split("\n")]
    return {
        (left + x, top + y): int(word) for y, row in enumerate(rows) for x, word in enumerate(row) if word != "."
    }


def random_picture(source, width, height, values):
    """A picture of some cells of a field of this size, in any order."""
    cells = [(x, y) for x in range(width) for y in range(height) if source.random() < 0.75]
    return {cell: source.choice(values) for cell in source.sample(cells, len(cells))}


def picture_pairs(count, seed):
    """As many pairs of small pictures, apart or with at most 8 cells in common, the same each time."""
    source = random.Random(seed)
    found = 0
    while found < count:
        values = source.choice([[0, 1], [0, 1, 2], [-5, 0, 7, 9], range(-9, 10), [4]])
        base = random_picture(source, source.choice([0, 2, 3, 4, 4]), source.randint(2, 4), values)
        dx, dy = source.choice([-3, -1, 0, 0, 1, 2]), source.choice([-2, -1, 0, 0, 1, 3])
        over = random_picture(source, source.choice([0, 2, 3, 4, 4]), source.randint(2, 4), values)
        over = {(x + dx, y + dy): value for (x, y), value in over.items()}
        # Most pairs have several cells in common, as those without are all alike.
        fewest = 3 if found % 4 else 0
        if fewest <= len(base.keys() & over.keys()) <= 8:
            found += 1
            yield base, over


def random_bound(source, base, over):
    """Some cells of the overlap, bound, or ()."""
    cells = sorted(base.keys() & over.keys())
    chosen = source.sample(cells, source.randint(0, min(3, len(cells))))
    return {cell: source.randint(0, 1) for cell in chosen} or source.choice([(), {}])


def random_layers(count, seed):
    """As many lists of at most 4 small pictures with names, the same each time."""
    source = random.Random(seed)
    for _ in range(count):
        values = source.choice([[0, 1], [0, 1, 2], [-5, 0, 7, 9], [4]])
        layers = []
        for name in source.sample(["a", "b", "c9", "zoo"], source.randint(0, 4)):
            field = random_picture(source, source.randint(1, 3), source.randint(1, 3), values)
            left, top = source.randint(-1, 2), source.randint(-1, 1)
            layers.append((name, {(x + left, y + top): value for (x, y), value in field.items()}))
        yield layers

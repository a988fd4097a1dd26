"""Values that several tests use."""

import random

from laidviews.album import Album

# Values that are no name, no view and no link, and as numbers not in any range.
JUNK = [
    True,
    False,
    1.0,
    0.5,
    float("nan"),
    float("inf"),
    10 ** 40,
    -(10 ** 40),
    1j,
    "",
    "A",
    " ",
    b"",
    b"a",
    (),
    [],
    {},
    set(),
    frozenset(),
    (None,),
    [1],
    {"a": 1},
    object(),
    int,
    len,
    NotImplemented,
    ...,
]


class Touchy:
    """A value that must not be compared or measured."""

    def __eq__(self, other):
        raise AssertionError("compared")

    def __len__(self):
        raise AssertionError("measured")

    def __bool__(self):
        raise AssertionError("tested")

    def __lt__(self, other):
        raise AssertionError("ordered")

    __le__ = __gt__ = __ge__ = __lt__
    __hash__ = None


def names_of(count):
    """As many different names."""
    return [f"n{number}" for number in range(count)]


def album_with(views, links):
    """An album with these views and links."""
    album = Album()
    for view in views:
        album.add_view(view)
    for link in links:
        album.add_link(link)
    return album


def linked(names, links):
    """An album with these links between small views of these names, separated by spaces."""
    return album_with([(name, ((1,),)) for name in names.split()], links)


def random_link(source, names, most):
    """A link between two of the names, whose numbers are at most so far from 0."""
    one, two = source.sample(names, 2)
    return (one, two, *[source.randint(-most, most) for _ in range(3)])


def small_albums(count, seed):
    """As many albums of at most 5 views and 7 links, some barred and some not, the same each time."""
    source = random.Random(seed)
    for _ in range(count):
        names = source.sample("abcde", source.randint(2, 5))
        links = [random_link(source, names, 1 if source.random() < 0.3 else 0) for _ in range(source.randint(0, 7))]
        yield linked(" ".join(names), links)


def ground_of(cells):
    """A ground that tells these values, for each cell a list: the first of view a, the next of b .."""
    return {cell: tuple(zip("abcdefghijklmnopqrstuvwxyz0123", told)) for cell, told in cells.items()}


def random_grounds(count, seed):
    """As many grounds of at most 3 cells with one to five told values each, the same each time."""
    source = random.Random(seed)
    for _ in range(count):
        cells = sorted({(source.randint(-2, 2), source.randint(-1, 1)) for _ in range(source.randint(0, 3))})
        greatest = source.choice([0, 1, 1, 2, 4])
        told = [[source.randint(0, greatest) for _ in range(source.randint(1, 5))] for _ in cells]
        yield ground_of(dict(zip(sorted(cells, key=lambda cell: (cell[1], cell[0])), told)))

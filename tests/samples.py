"""Values that several tests use."""

# Values that are no name, no view and no link, and as numbers not in any range.
JUNK = [
    True,
    False,
    1.0,
    0.5,
    float("nan"),
    float("inf"),
    10 ** 40,
    -(10 ** 40),
    1j,
    "",
    "A",
    " ",
    b"",
    b"a",
    (),
    [],
    {},
    set(),
    frozenset(),
    (None,),
    [1],
    {"a": 1},
    object(),
    int,
    len,
    NotImplemented,
    ...,
]


class Touchy:
    """A value that must not be compared or measured."""

    def __eq__(self, other):
        raise AssertionError("compared")

    def __len__(self):
        raise AssertionError("measured")

    def __bool__(self):
        raise AssertionError("tested")

    def __lt__(self, other):
        raise AssertionError("ordered")

    __le__ = __gt__ = __ge__ = __lt__
    __hash__ = None


def names_of(count):
    """As many different names."""
    return [f"n{number}" for number in range(count)]

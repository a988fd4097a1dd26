"""The errors that the program raises on purpose."""


class Refused(ValueError):
    """Any error that the program raises on purpose."""


class Malformed(Refused):
    """A text is not well formed; at is the index of a line."""

    def __init__(self, at):
        self.at = at


class Unknown(Refused):
    """There is no view of this name."""

    def __init__(self, name):
        self.name = name


class Clashing(Refused):
    """A name is used twice."""

    def __init__(self, name):
        self.name = name


class Oversized(Refused):
    """A limit is exceeded; limit tells which one."""

    def __init__(self, limit):
        self.limit = limit


class Misused(Refused):
    """A call is not allowed; why tells what is wrong with it."""

    def __init__(self, why):
        self.why = why

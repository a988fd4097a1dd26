"""Albums: views, the links between them, and the text of both."""

from laidviews.errors import Clashing, Malformed, Misused, Oversized, Refused, Unknown
from laidviews.kinds import is_tuple_of, is_within
from laidviews.pictures import DIGITS, is_name, is_view

MOST_VIEWS = 30
MOST_LINKS = 60
FARTHEST = 99
GREATEST_LIGHT = 999
MOST_DIGITS = 9


def is_link(value):
    """Tell whether a value of any kind has the form of a link."""
    if not is_tuple_of(value, 5):
        return False
    one, two, dx, dy, light = value
    if not is_name(one) or not is_name(two) or one == two:
        return False
    if not is_within(dx, -FARTHEST, FARTHEST) or not is_within(dy, -FARTHEST, FARTHEST):
        return False
    return is_within(light, -GREATEST_LIGHT, GREATEST_LIGHT)


class Album:
    """Views with different names and links between them, both in order."""

    def __init__(self):
        self._views = {}
        self._links = []

    def add_view(self, view):
        """Put a view behind the others."""
        if not is_view(view):
            raise Misused("view")
        name = view[0]
        if name in self._views:
            raise Clashing(name)
        if len(self._views) >= MOST_VIEWS:
            raise Oversized("views")
        self._views[name] = view

    def add_link(self, link):
        """Put a link behind the others."""
        if not is_link(link):
            raise Misused("link")
        for name in link[:2]:
            self._check_known(name)
        if len(self._links) >= MOST_LINKS:
            raise Oversized("links")
        self._links.append(link)

    def remove_link(self, number):
        """Remove the link of this number; those behind it move up by 1."""
        if not is_within(number, 0, len(self._links) - 1):
            raise Misused("number")
        del self._links[number]

    def remove_view(self, name):
        """Remove a view and all its links."""
        self._check_known(name)
        del self._views[name]
        self._links = [link for link in self._links if name not in link[:2]]

    def view(self, name):
        """Return the view of this name."""
        self._check_known(name)
        return self._views[name]

    def index(self, name):
        """Return the index of the view of this name."""
        self._check_known(name)
        return self.names().index(name)

    def views(self):
        """Return the views in order."""
        return list(self._views.values())

    def names(self):
        """Return the names of the views in order."""
        return list(self._views)

    def links(self):
        """Return the links in order."""
        return list(self._links)

    def twin(self):
        """Return an independent album with the same views and links."""
        other = Album()
        other._views = dict(self._views)
        other._links = list(self._links)
        return other

    def _check_known(self, name):
        if name not in self._views:
            raise Unknown(name)


def _is_number(word):
    if word == "0":
        return True
    digits = word.removeprefix("-")
    if not 1 <= len(digits) <= MOST_DIGITS or digits[0] == "0":
        return False
    return all([sign in DIGITS for sign in digits])


def _number_of(word, at):
    if not _is_number(word):
        raise Malformed(at)
    return int(word)


def _reading_of(word, at):
    if word == ".":
        return None
    return _number_of(word, at)


def _name_of_view(words, at):
    if len(words) != 2 or not is_name(words[1]):
        raise Malformed(at)
    return words[1]


def _put_view(album, view, at):
    try:
        album.add_view(view)
    except Refused:
        raise Malformed(at) from None


def _put_link(album, words, at):
    if len(words) != 6 or words[0] != "link":
        raise Malformed(at)
    one, two = words[1:3]
    dx, dy, light = [_number_of(word, at) for word in words[3:]]
    # add_link also refuses what is no name, so the names need no check of their own.
    try:
        album.add_link((one, two, dx, dy, light))
    except Refused:
        raise Malformed(at) from None


def album_of(text):
    """Read an album from its text."""
    album = Album()
    lines = text.split("\n")
    name = None
    rows = []
    for at, line in enumerate(lines):
        words = line.split(" ")
        if line == "":
            continue
        if name is not None and line == "end":
            _put_view(album, (name, tuple(rows)), at)
            name = None
        elif name is not None:
            rows.append(tuple([_reading_of(word, at) for word in words]))
        elif words[0] == "view":
            name = _name_of_view(words, at)
            rows = []
        else:
            _put_link(album, words, at)
    if name is not None:
        raise Malformed(len(lines))
    return album


def _shown_row(row):
    return " ".join(["." if reading is None else str(reading) for reading in row])


def _shown_view(view):
    name, rows = view
    return [f"view {name}", *[_shown_row(row) for row in rows], "end"]


def _shown_link(link):
    one, two, dx, dy, light = link
    return f"link {one} {two} {dx} {dy} {light}"


def show_album(album):
    """Return the text of an album: first all views, then all links."""
    lines = []
    for view in album.views():
        lines.extend(_shown_view(view))
    for link in album.links():
        lines.append(_shown_link(link))
    return "".join([line + "\n" for line in lines])

"""Keepers: albums that change, with answers of which only the touched ones are made anew."""

from laidviews.laying import groups, joined, lay_group


def _number_now(number, gone):
    """Return the number of a link behind the removal of the links with the numbers gone."""
    return number - len([other for other in gone if other < number])


def _adjusted(answer, group, gone):
    """Return a kept answer with the number that its group has now and those of its links."""
    kind, told = answer
    if kind == "ring":
        return (kind, tuple([(_number_now(number, gone), forward) for number, forward in told]))
    return (kind, {name: (group,) + place[1:] for name, place in told.items()})


class Keeper:
    """An album that is changed only here, and the answers of lay_group for its groups."""

    def __init__(self, album):
        self._album = album.twin()
        # By the first name of each group: numbers change when views go, names do not.
        self._answers = {}
        self._renew(self._album.names(), [])

    def album(self):
        """Return a twin of the album as it is."""
        return self._album.twin()

    def answer(self):
        """Return ("laid", laying) or ("ring", ring), as lay does for the album as it is."""
        return joined(self._album.names(), list(self._answers.values()))

    def put_view(self, view):
        """Put a view behind the others; return the names that were laid anew."""
        self._album.add_view(view)
        return self._renew([view[0]], [])

    def put_link(self, link):
        """Put a link behind the others; return the names that were laid anew."""
        self._album.add_link(link)
        return self._renew(link[:2], [])

    def take_link(self, number):
        """Remove the link of this number; return the names that were laid anew."""
        links = self._album.links()
        self._album.remove_link(number)
        return self._renew(links[number][:2], [number])

    def take_view(self, name):
        """Remove a view and all its links; return the names that were laid anew."""
        links = self._album.links()
        self._album.remove_view(name)
        gone = [number for number, link in enumerate(links) if name in link[:2]]
        # Each part into which the group falls had a link to the view that went.
        touched = [other for number in gone for other in links[number][:2]]
        return self._renew(touched, gone)

    def _renew(self, touched, gone):
        """Lay the groups of the touched views anew, keep the other answers, return the names laid."""
        kept = self._answers
        self._answers = {}
        laid = []
        for names in groups(self._album):
            first = names[0]
            if any([name in touched for name in names]):
                self._answers[first] = lay_group(self._album, names)
                laid.extend(names)
            else:
                self._answers[first] = _adjusted(kept[first], self._album.index(first), gone)
        return [name for name in self._album.names() if name in laid]

"""Layings of the views of an album, and the rings of links that bar every laying."""

ORIGIN = (0, 0, 0)


def _place_behind(place, link, forward):
    """Return the place (x, y, light) to which a step over a link leads from a place."""
    x, y, light = place
    dx, dy, more = link[2:]
    if forward:
        return (x + dx, y + dy, light + more)
    return (x - dx, y - dy, light - more)


def _links_between(album, names):
    """Return the dict from the numbers of the links between these views to the links."""
    links = {}
    for number, link in enumerate(album.links()):
        if link[0] in names and link[1] in names:
            links[number] = link
    return links


def _steps_at(names, links):
    """Return the dict from each view to its steps (number, forward, other), by their numbers."""
    steps = {name: [] for name in names}
    for number, link in links.items():
        one, two = link[:2]
        steps[one].append((number, True, two))
        steps[two].append((number, False, one))
    return steps


def _walks_from(start, links, steps):
    """Return the dict from the views, as they are found, to pairs of the way there and its place."""
    walks = {start: ((), ORIGIN)}
    found = [start]
    while found:
        # All views of one distance are taken before those behind them: breadth first.
        further = []
        for name in found:
            way, place = walks[name]
            for number, forward, other in steps[name]:
                if other not in walks:
                    walks[other] = (way + ((number, forward),), _place_behind(place, links[number], forward))
                    further.append(other)
        found = further
    return walks


def _backwards(way):
    return tuple([(number, not forward) for number, forward in reversed(way)])


def _rings_from(start, links, steps):
    """Return the rings that the ways from a view make, in the order of the links not kept."""
    walks = _walks_from(start, links, steps)
    rings = []
    for number, link in links.items():
        way, place = walks[link[0]]
        other_way, other_place = walks[link[1]]
        if _place_behind(place, link, True) != other_place:
            rings.append(way + ((number, True),) + _backwards(other_way))
    return rings


def groups(album):
    """Return the groups, ascending by number, each the list of its names in order."""
    names = album.names()
    links = _links_between(album, names)
    steps = _steps_at(names, links)
    found = []
    placed = {}
    for name in names:
        if name not in placed:
            walks = _walks_from(name, links, steps)
            placed.update(walks)
            found.append([other for other in names if other in walks])
    return found


def lay_group(album, names):
    """Return the answer for the views of one group and the links between them."""
    ordered = [name for name in album.names() if name in names]
    links = _links_between(album, ordered)
    steps = _steps_at(ordered, links)
    rings = []
    for name in ordered:
        rings.extend(_rings_from(name, links, steps))
    if rings:
        # min takes the first of several shortest: that of the least view, then of the least link.
        return ("ring", min(rings, key=len))
    first = ordered[0]
    number = album.index(first)
    walks = _walks_from(first, links, steps)
    return ("laid", {name: (number,) + walks[name][1] for name in ordered})


def joined(names, answers):
    """Return the answer for all views from those of the groups, ascending by number."""
    rings = [told for kind, told in answers if kind == "ring"]
    if rings:
        # min takes the first of several shortest: that of the group with the least number.
        return ("ring", min(rings, key=len))
    places = {}
    for _, laying in answers:
        places.update(laying)
    return ("laid", {name: places[name] for name in names})


def lay(album):
    """Return ("laid", laying), or ("ring", ring) with the told ring."""
    return joined(album.names(), [lay_group(album, names) for names in groups(album)])


def ring_sum(album, ring):
    """Return the sum of a ring: the triple of what its steps add up to."""
    links = album.links()
    place = ORIGIN
    for number, forward in ring:
        place = _place_behind(place, links[number], forward)
    return place


def keeps(laying, link):
    """Tell whether a laying keeps a link."""
    one, two = link[:2]
    if one not in laying or two not in laying:
        return False
    if laying[one][0] != laying[two][0]:
        return False
    return _place_behind(laying[one][1:], link, True) == laying[two][1:]

"""Greatest flows of nets with edges that are used in either direction, and their least sides."""

from laidviews.errors import Misused
from laidviews.kinds import is_whole, is_within

SOURCE = 0
SINK = 1
FEWEST_NODES = 2


def _is_edge(count, edge):
    one, two, room = edge
    if not is_within(one, 0, count - 1) or not is_within(two, 0, count - 1) or one == two:
        return False
    return is_whole(room) and room >= 0


def check_net(count, edges):
    """Raise Misused for fewer than two nodes, or for an edge that the net cannot have."""
    if count < FEWEST_NODES:
        raise Misused("nodes")
    for edge in edges:
        if not _is_edge(count, edge):
            raise Misused("edge")


def _steps_at(count, edges):
    """Return, for each node, the list of its steps (number, forward, other) over edges."""
    steps = [[] for _ in range(count)]
    for number, edge in enumerate(edges):
        one, two = edge[:2]
        steps[one].append((number, True, two))
        steps[two].append((number, False, one))
    return steps


def _left(edge, amount, forward):
    """Return how much more can go over an edge in a direction."""
    return edge[2] - amount if forward else edge[2] + amount


def _distances(start, ahead, steps, edges, flow):
    """Return the dict from the nodes that are joined to the start to how many steps they are away.

    Only edges are used that the flow does not fill: in the direction away from the start,
    or, if not ahead, in the one towards it.
    """
    distances = {start: 0}
    found = [start]
    while found:
        further = []
        for node in found:
            for number, forward, other in steps[node]:
                if other not in distances and _left(edges[number], flow[number], forward == ahead) > 0:
                    distances[other] = distances[node] + 1
                    further.append(other)
        found = further
    return distances


def _send(way, edges, flow):
    """Change the flow: send over a way, a list of (number, forward, node), all that it takes."""
    amount = min([_left(edges[number], flow[number], forward) for number, forward, _ in way])
    for number, forward, _ in way:
        flow[number] += amount if forward else -amount


def _send_all(distances, steps, edges, flow):
    """Change the flow: send all that ways take of which each step leads one further from the source."""
    # What is behind a node's tried steps takes nothing more before the distances change.
    tried = [0] * len(steps)
    way = []
    node = SOURCE
    while node != SOURCE or tried[node] < len(steps[node]):
        if node == SINK:
            _send(way, edges, flow)
            way = []
            node = SOURCE
        elif tried[node] == len(steps[node]):
            _, _, node = way.pop()
            tried[node] += 1
        else:
            number, forward, other = steps[node][tried[node]]
            if distances.get(other) == distances[node] + 1 and _left(edges[number], flow[number], forward) > 0:
                way.append((number, forward, node))
                node = other
            else:
                tried[node] += 1


def greatest_flow(count, edges):
    """Return a greatest flow of a net."""
    check_net(count, edges)
    steps = _steps_at(count, edges)
    flow = [0] * len(edges)
    distances = _distances(SOURCE, True, steps, edges, flow)
    # Each round makes the sink farther away, so that there are fewer rounds than nodes.
    while SINK in distances:
        _send_all(distances, steps, edges, flow)
        distances = _distances(SOURCE, True, steps, edges, flow)
    return flow


def worth(edges, flow):
    """Return the worth of a flow: what goes out of node 0, less what comes in there."""
    total = 0
    for edge, amount in zip(edges, flow):
        if edge[0] == SOURCE:
            total += amount
        if edge[1] == SOURCE:
            total -= amount
    return total


def _is_even(count, edges, flow):
    """Tell whether as much comes in as goes out at every node but the source and the sink."""
    gains = [0] * count
    for edge, amount in zip(edges, flow):
        gains[edge[0]] -= amount
        gains[edge[1]] += amount
    return all([gain == 0 for gain in gains[FEWEST_NODES:]])


def is_flow(count, edges, flow):
    """Tell whether a list of integers is a flow of a net."""
    if len(flow) != len(edges):
        return False
    if not all([is_within(amount, -edge[2], edge[2]) for edge, amount in zip(edges, flow)]):
        return False
    return _is_even(count, edges, flow)


def side_cost(edges, side):
    """Return the cost of a side: the rooms of all edges that have just one of their nodes in it."""
    return sum([room for one, two, room in edges if (one in side) != (two in side)])


def narrow_side(count, edges, flow):
    """Return the narrow side for a greatest flow."""
    return sorted(_distances(SOURCE, True, _steps_at(count, edges), edges, flow))


def wide_side(count, edges, flow):
    """Return the wide side for a greatest flow."""
    leading = _distances(SINK, False, _steps_at(count, edges), edges, flow)
    return [node for node in range(count) if node not in leading]

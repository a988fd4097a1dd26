"""Promises 30.1 to 30.4: nets, flows and sides."""

import itertools
import random
import unittest

from laidviews.errors import Misused
from laidviews.flow import check_net, greatest_flow, is_flow, narrow_side, side_cost, wide_side, worth

EXAMPLE = [(0, 2, 5), (2, 1, 3)]
# The way 0, 2, 3, 1 has the fewest steps, and is used against the direction of all its edges.
TURNED = [(2, 0, 4), (3, 2, 6), (1, 3, 5), (0, 4, 1), (4, 5, 2), (5, 1, 9)]


def random_net(source, most_nodes, most_edges, rooms):
    """A net, in which some nodes may have no edge."""
    count = source.randint(2, most_nodes)
    edges = [(*source.sample(range(count), 2), source.choice(rooms)) for _ in range(source.randint(0, most_edges))]
    return count, edges


def plain_worth(edges, flow):
    out = sum(amount for (one, _, _), amount in zip(edges, flow) if one == 0)
    return out - sum(amount for (_, two, _), amount in zip(edges, flow) if two == 0)


def plain_is_flow(count, edges, flow):
    if len(flow) != len(edges) or any(abs(amount) > room for (_, _, room), amount in zip(edges, flow)):
        return False
    for node in range(2, count):
        out = sum(amount for (one, _, _), amount in zip(edges, flow) if one == node)
        into = sum(amount for (_, two, _), amount in zip(edges, flow) if two == node)
        if out != into:
            return False
    return True


def plain_side_cost(edges, side):
    return sum(room for one, two, room in edges if len({one, two} & set(side)) == 1)


def least_sides(count, edges):
    """The least cost of all sides, tried one by one, and the list of the sides that have it."""
    costs = {}
    for many in range(count - 1):
        for inner in itertools.combinations(range(2, count), many):
            costs[0, *inner] = plain_side_cost(edges, (0, *inner))
    least = min(costs.values())
    return least, [list(side) for side in costs if costs[side] == least]


class FlowCase(unittest.TestCase):
    def unchanged(self, function, *arguments):
        """Call, and check that the lists among the arguments stay as they are."""
        before = [list(value) if isinstance(value, list) else value for value in arguments]
        try:
            return function(*arguments)
        finally:
            self.assertEqual(list(arguments), before)

    def check_net_flow(self, count, edges):
        """Check a greatest flow and its sides against all sides; return the flow."""
        flow = self.unchanged(greatest_flow, count, edges)
        self.assertEqual({type(value) for value in [*flow, 0]}, {int})
        self.assertIs(type(flow), list)
        self.assertTrue(plain_is_flow(count, edges, flow), (count, edges, flow))
        least, sides = least_sides(count, edges)
        self.assertEqual(plain_worth(edges, flow), least)
        self.check_sides(count, edges, flow, sides)
        return flow

    def check_sides(self, count, edges, flow, sides):
        narrow = self.unchanged(narrow_side, count, edges, flow)
        wide = self.unchanged(wide_side, count, edges, flow)
        self.assertEqual((type(narrow), type(wide)), (list, list))
        self.assertIn(narrow, sides)
        self.assertIn(wide, sides)
        for side in sides:
            self.assertLessEqual(set(narrow), set(side))
            self.assertLessEqual(set(side), set(wide))


class Nets(FlowCase):
    def check_refused(self, why, count, edges):
        for function in (check_net, greatest_flow):
            with self.assertRaises(Misused) as caught:
                self.unchanged(function, count, edges)
            self.assertEqual(caught.exception.why, why)

    def test_nets(self):
        for count, edges in [(2, []), (3, EXAMPLE), (2, [(0, 1, 0), (1, 0, 10 ** 30)]), (6, TURNED), (50, EXAMPLE)]:
            self.assertIsNone(self.unchanged(check_net, count, edges))

    def test_fewer_than_two_nodes(self):
        for count in (1, 0, -1, -10):
            self.check_refused("nodes", count, [])

    def test_nodes_ahead_of_edges(self):
        self.check_refused("nodes", 1, [(0, 1, 5)])
        self.check_refused("nodes", 0, [(0, 0, -5)])

    def test_the_same_node_twice(self):
        for node in range(3):
            self.check_refused("edge", 3, [(0, 2, 5), (node, node, 5)])

    def test_no_such_node(self):
        for edge in [(0, 3, 5), (3, 0, 5), (-1, 0, 5), (0, -1, 5), (7, 1, 0), (2, -3, 1)]:
            self.check_refused("edge", 3, [edge])
            self.check_refused("edge", 3, [(0, 2, 5), edge, (2, 1, 3)])
        self.check_refused("edge", 2, EXAMPLE)

    def test_no_room(self):
        self.check_refused("edge", 3, [(0, 2, -1)])
        self.check_refused("edge", 3, [(0, 2, 5), (2, 1, 3), (1, 2, -(10 ** 20))])

    def test_true_and_false_are_no_integers(self):
        for edge in [(0, True, 5), (False, 1, 5), (0, 1, True), (0, 1, False)]:
            self.check_refused("edge", 2, [edge])


class Greatest(FlowCase):
    def test_example(self):
        flow = self.check_net_flow(3, EXAMPLE)
        self.assertEqual(flow, [3, 3])
        self.assertEqual(worth(EXAMPLE, flow), 3)
        self.assertEqual((narrow_side(3, EXAMPLE, flow), wide_side(3, EXAMPLE, flow)), ([0, 2], [0, 2]))

    def test_without_edges(self):
        self.assertEqual(self.check_net_flow(2, []), [])
        self.assertEqual(self.check_net_flow(5, []), [])
        self.assertEqual((narrow_side(5, [], []), wide_side(5, [], [])), ([0], [0, 2, 3, 4]))

    def test_one_edge(self):
        for edge, amount in [((0, 1, 7), 7), ((1, 0, 7), -7), ((0, 1, 0), 0), ((1, 0, 10 ** 30), -(10 ** 30))]:
            flow = self.check_net_flow(2, [edge])
            self.assertEqual(flow, [amount])
            self.assertEqual((narrow_side(2, [edge], flow), wide_side(2, [edge], flow)), ([0], [0]))

    def test_several_edges_between_the_same_nodes(self):
        edges = [(0, 1, 2), (1, 0, 3), (0, 1, 0), (0, 1, 4)]
        self.assertEqual(self.check_net_flow(2, edges), [2, -3, 0, 4])
        edges = [(0, 2, 2), (2, 0, 3), (2, 1, 1), (1, 2, 2), (2, 1, 1)]
        flow = self.check_net_flow(3, edges)
        self.assertEqual(flow[2:], [1, -2, 1])
        self.assertEqual((narrow_side(3, edges, flow), wide_side(3, edges, flow)), ([0, 2], [0, 2]))

    def test_against_the_direction(self):
        flow = self.check_net_flow(6, TURNED)
        self.assertEqual(flow, [-4, -4, -4, 1, 1, 1])
        self.assertEqual(worth(TURNED, flow), 5)
        self.assertEqual((narrow_side(6, TURNED, flow), wide_side(6, TURNED, flow)), ([0], [0]))

    def test_edges_used_back(self):
        # A way over the edge between 2 and 3 must be taken back, whichever is found first.
        edges = [(0, 2, 1), (0, 3, 1), (2, 3, 1), (2, 1, 1), (3, 1, 1)]
        for numbers in itertools.permutations(range(5)):
            self.assertEqual(worth([edges[k] for k in numbers], self.check_net_flow(4, [edges[k] for k in numbers])), 2)

    def test_narrow_and_wide_sides(self):
        edges = [(0, 2, 3), (2, 3, 3), (3, 4, 3), (4, 1, 3)]
        flow = self.check_net_flow(5, edges)
        self.assertEqual(narrow_side(5, edges, flow), [0])
        self.assertEqual(wide_side(5, edges, flow), [0, 2, 3, 4])
        edges = [(0, 2, 4), (2, 3, 3), (3, 4, 3), (4, 1, 4)]
        flow = self.check_net_flow(5, edges)
        self.assertEqual(narrow_side(5, edges, flow), [0, 2])
        self.assertEqual(wide_side(5, edges, flow), [0, 2, 3])

    def test_nodes_without_edges(self):
        edges = [(0, 4, 5), (4, 1, 9)]
        flow = self.check_net_flow(7, edges)
        self.assertEqual(narrow_side(7, edges, flow), [0])
        self.assertEqual(wide_side(7, edges, flow), [0, 2, 3, 5, 6])

    def test_rooms_of_zero(self):
        edges = [(0, 2, 0), (2, 1, 5), (0, 3, 5), (3, 1, 0)]
        flow = self.check_net_flow(4, edges)
        self.assertEqual(flow, [0, 0, 0, 0])
        self.assertEqual(narrow_side(4, edges, flow), [0, 3])
        self.assertEqual(wide_side(4, edges, flow), [0, 3])

    def test_great_rooms(self):
        great = 10 ** 30
        edges = [(0, 2, great), (0, 3, great), (2, 3, 1), (2, 1, great), (3, 1, great - 1)]
        self.assertEqual(worth(edges, self.check_net_flow(4, edges)), 2 * great - 1)

    def test_all_sides_of_small_nets(self):
        source = random.Random(1)
        for rooms in ([0, 1], [0, 1, 2, 3], [1], [5, 6, 10 ** 18], range(20)):
            for _ in range(120):
                self.check_net_flow(*random_net(source, 7, 12, list(rooms)))

    def test_new_lists(self):
        flow = greatest_flow(3, EXAMPLE)
        greatest_flow(3, EXAMPLE).clear()
        narrow_side(3, EXAMPLE, flow).clear()
        wide_side(3, EXAMPLE, flow).clear()
        self.check_net_flow(3, EXAMPLE)

    def test_great_nets_in_short_time(self):
        source = random.Random(2)
        for rooms in ([1], range(10), [1, 10 ** 6, 10 ** 12]):
            for _ in range(30):
                edges = [(*source.sample(range(20), 2), source.choice(list(rooms))) for _ in range(60)]
                flow = greatest_flow(20, edges)
                self.assertTrue(plain_is_flow(20, edges, flow))
                narrow, wide = narrow_side(20, edges, flow), wide_side(20, edges, flow)
                self.assertEqual(plain_side_cost(edges, narrow), plain_worth(edges, flow))
                self.assertEqual(plain_side_cost(edges, wide), plain_worth(edges, flow))
                self.assertLessEqual(set(narrow), set(wide))

    def test_long_nets(self):
        count = 3000
        edges = [(0, 2, 9), *[(node, node + 1, 5) for node in range(2, count - 1)], (count - 1, 1, 9)]
        flow = greatest_flow(count, edges)
        self.assertEqual(flow, [5] * len(edges))
        self.assertEqual(narrow_side(count, edges, flow), [0, 2])
        self.assertEqual(wide_side(count, edges, flow), [0, *range(2, count - 1)])


class SeveralFlows(FlowCase):
    def test_the_same_sides_for_all_greatest_flows(self):
        source = random.Random(3)
        several = 0
        for _ in range(60):
            count, edges = random_net(source, 7, 14, [0, 1, 2, 2])
            flows = [self.flow_of_turned(source, count, edges) for _ in range(5)]
            narrow, wide = narrow_side(count, edges, flows[0]), wide_side(count, edges, flows[0])
            for flow in flows:
                self.assertTrue(plain_is_flow(count, edges, flow))
                self.assertEqual(plain_worth(edges, flow), plain_worth(edges, flows[0]))
                self.assertEqual(narrow_side(count, edges, flow), narrow)
                self.assertEqual(wide_side(count, edges, flow), wide)
            several += len({tuple(flow) for flow in flows}) > 1
        self.assertGreater(several, 10)

    def flow_of_turned(self, source, count, edges):
        """A greatest flow that is found with the edges in another order, some of them turned round."""
        numbers = source.sample(range(len(edges)), len(edges))
        signs = [source.choice([1, -1]) for _ in edges]
        turned = []
        for number in numbers:
            one, two, room = edges[number]
            turned.append((one, two, room) if signs[number] == 1 else (two, one, room))
        flow = [0] * len(edges)
        for number, amount in zip(numbers, greatest_flow(count, turned)):
            flow[number] = signs[number] * amount
        return flow

    def test_a_round_flow_changes_no_side(self):
        edges = [(0, 2, 2), (2, 1, 2), (3, 4, 1), (4, 5, 1), (5, 3, 1)]
        for amount in (-1, 0, 1):
            flow = [2, 2, amount, amount, amount]
            self.assertEqual(narrow_side(6, edges, flow), [0])
            self.assertEqual(wide_side(6, edges, flow), [0, 2, 3, 4, 5])


class IsFlow(FlowCase):
    def check_is_flow(self, count, edges, flow, expected):
        found = self.unchanged(is_flow, count, edges, flow)
        self.assertIs(found, expected, (count, edges, flow))

    def test_flows(self):
        for flow in ([3, 3], [0, 0], [-3, -3], [1, 1]):
            self.check_is_flow(3, EXAMPLE, flow, True)
        self.check_is_flow(2, [], [], True)
        self.check_is_flow(9, [], [], True)

    def test_rows_of_another_length(self):
        for flow in ([], [0], [3], [0, 0, 0], [3, 3, 0]):
            self.check_is_flow(3, EXAMPLE, flow, False)
        self.check_is_flow(2, [], [0], False)

    def test_beyond_the_room(self):
        self.check_is_flow(3, EXAMPLE, [4, 4], False)
        self.check_is_flow(3, EXAMPLE, [-4, -4], False)
        self.check_is_flow(3, [(0, 2, 3), (2, 1, 5)], [4, 4], False)
        self.check_is_flow(3, [(0, 2, 3), (2, 1, 5)], [-4, -4], False)
        self.check_is_flow(2, [(0, 1, 0)], [1], False)
        self.check_is_flow(2, [(0, 1, 0)], [-1], False)
        self.check_is_flow(2, [(1, 0, 2)], [2], True)
        self.check_is_flow(2, [(1, 0, 2)], [-2], True)

    def test_not_even(self):
        self.check_is_flow(3, EXAMPLE, [3, 2], False)
        self.check_is_flow(3, EXAMPLE, [2, 3], False)
        self.check_is_flow(3, EXAMPLE, [3, -3], False)
        # Uneven at two nodes, by as much in both directions.
        self.check_is_flow(4, [(2, 3, 5)], [1], False)
        self.check_is_flow(4, [(2, 3, 5)], [0], True)
        self.check_is_flow(4, [(0, 2, 5), (3, 1, 5)], [1, 1], False)

    def test_source_and_sink_need_not_be_even(self):
        self.check_is_flow(2, [(0, 1, 5), (1, 0, 5)], [4, 1], True)
        self.check_is_flow(2, [(0, 1, 5), (1, 0, 5)], [4, -5], True)

    def test_true_and_false_are_no_integers(self):
        self.check_is_flow(3, EXAMPLE, [True, True], False)
        self.check_is_flow(3, EXAMPLE, [False, 0], False)

    def test_small_changes_of_a_flow(self):
        source = random.Random(4)
        for _ in range(100):
            count, edges = random_net(source, 5, 8, [0, 1, 2, 3])
            flow = greatest_flow(count, edges)
            self.check_is_flow(count, edges, flow, True)
            for at in range(len(flow)):
                for change in (-2, -1, 1):
                    changed = [*flow[:at], flow[at] + change, *flow[at + 1:]]
                    self.check_is_flow(count, edges, changed, plain_is_flow(count, edges, changed))

    def test_all_small_rows(self):
        edges = [(0, 2, 1), (2, 3, 2), (3, 1, 1), (3, 0, 1)]
        for flow in itertools.product(range(-2, 3), repeat=4):
            self.check_is_flow(4, edges, list(flow), plain_is_flow(4, edges, flow))


class Sums(FlowCase):
    def test_worth(self):
        edges = [(0, 2, 5), (2, 0, 5), (2, 1, 5), (0, 1, 5), (1, 0, 5), (1, 2, 5)]
        for flow, expected in [
            ([3, 0, 3, 0, 0, 0], 3),
            ([3, 2, 1, 0, 0, 0], 1),
            ([0, -4, 4, 0, 0, 0], 4),
            ([0, 0, 0, 5, -5, 0], 10),
            ([0, 0, 0, 2, 3, 0], -1),
            ([0, 0, 0, 0, 0, 0], 0),
            ([-1, 0, 0, 0, 0, 1], -1),
            ([0, 0, 5, 0, 0, 5], 0),
        ]:
            self.assertEqual(self.unchanged(worth, edges, flow), expected)
        self.assertEqual(worth([], []), 0)

    def test_worth_by_plain_sums(self):
        source = random.Random(5)
        for _ in range(100):
            count, edges = random_net(source, 5, 8, [9])
            flow = [source.randint(-9, 9) for _ in edges]
            self.assertEqual(self.unchanged(worth, edges, flow), plain_worth(edges, flow))

    def test_side_cost(self):
        edges = [(0, 2, 1), (2, 1, 20), (3, 0, 300), (2, 3, 4000), (3, 2, 50000), (0, 1, 600000)]
        for side, expected in [
            ([0], 600301),
            ([0, 2], 654320),
            ([0, 3], 654001),
            ([0, 2, 3], 600020),
        ]:
            self.assertEqual(self.unchanged(side_cost, edges, side), expected)
        self.assertEqual(side_cost([], [0, 2]), 0)

    def test_side_cost_by_plain_sums(self):
        source = random.Random(6)
        for _ in range(100):
            count, edges = random_net(source, 6, 10, range(10))
            side = [0, *[node for node in range(2, count) if source.random() < 0.5]]
            self.assertEqual(self.unchanged(side_cost, edges, side), plain_side_cost(edges, side))


if __name__ == "__main__":
    unittest.main()

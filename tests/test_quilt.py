"""Promises 32.1 and 32.2: quilts, what lies at the end, and the steps."""

import copy
import random
import unittest

from laidviews.errors import Clashing
from laidviews.flow import is_flow, worth
from laidviews.ground import picture_of
from laidviews.quilt import quilt, quilt_rows, shares, values
from laidviews.seam import net_of

from plain import by_rows, ones, seams_of
from samples import picture, random_layers

BASE = {(0, 0): 5, (1, 0): 5, (2, 0): 9}
OVER = {(1, 0): 5, (2, 0): 4, (3, 0): 4}


def plainly_laid(lying, name, over, choice):
    """What lies behind a choice, cell by cell."""
    found = {}
    for cell in by_rows(lying.keys() | over.keys()):
        if cell not in lying or choice.get(cell) == 1:
            found[cell] = (name, over[cell])
        else:
            found[cell] = lying[cell]
    return found


def plain_quilt(layers):
    """What lies at the end, and the triples of name, cost and narrow seam, all choices tried one by one."""
    lying = {}
    steps = []
    for name, over in layers:
        base = {cell: value for cell, (_, value) in lying.items()}
        least, seams = seams_of(base, over, ())
        narrow = min(seams, key=lambda seam: len(ones(seam)))
        steps.append((name, least, narrow))
        lying = plainly_laid(lying, name, over, narrow)
    return lying, steps[1:]


class QuiltCase(unittest.TestCase):
    def check_quilt(self, layers):
        """Compare a quilt with the plain one; return the quilt."""
        before = [(name, list(pictured.items())) for name, pictured in layers]
        found = quilt(layers)
        self.assertEqual([(name, list(pictured.items())) for name, pictured in layers], before)
        self.assertEqual((type(found), len(found)), (tuple, 2))
        lying, steps = found
        expected, plain_steps = plain_quilt(layers)
        self.assertIs(type(lying), dict)
        self.assertEqual(list(lying.items()), list(expected.items()))
        self.assertEqual({type(pair) for pair in lying.values()} | {tuple}, {tuple})
        self.assertIs(type(steps), list)
        self.assertEqual([type(step) for step in steps], [tuple] * max(0, len(layers) - 1))
        self.assertEqual([(name, price, paper[0]) for name, price, paper in steps], plain_steps)
        self.check_papers(layers, steps)
        return found

    def check_papers(self, layers, steps):
        lying = plainly_laid({}, *layers[0], {}) if layers else {}
        for (name, over), (_, price, paper) in zip(layers[1:], steps):
            base = {cell: value for cell, (_, value) in lying.items()}
            choice, flow = paper
            self.assertEqual((type(paper), type(choice), type(flow)), (tuple, dict, tuple))
            self.assertEqual(list(choice), by_rows(base.keys() & over.keys()))
            count, edges = net_of(base, over, ())
            self.assertTrue(is_flow(count, edges, list(flow)))
            self.assertEqual(worth(edges, list(flow)), price)
            lying = plainly_laid(lying, name, over, choice)


class Quilts(QuiltCase):
    def test_two_pictures(self):
        lying, steps = self.check_quilt([("a", BASE), ("b", OVER)])
        expected = [((0, 0), ("a", 5)), ((1, 0), ("b", 5)), ((2, 0), ("b", 4)), ((3, 0), ("b", 4))]
        self.assertEqual(list(lying.items()), expected)
        self.assertEqual(steps, [("b", 0, ({(1, 0): 1, (2, 0): 1}, (0, 0, 0)))])

    def test_no_picture(self):
        self.assertEqual(quilt([]), ({}, []))
        self.check_quilt([])

    def test_one_picture(self):
        lying, steps = self.check_quilt([("a", {(1, 0): 3, (0, 1): 4, (0, 0): -5})])
        self.assertEqual(list(lying.items()), [((0, 0), ("a", -5)), ((1, 0), ("a", 3)), ((0, 1), ("a", 4))])
        self.assertEqual(steps, [])

    def test_empty_pictures(self):
        self.assertEqual(self.check_quilt([("a", {})]), ({}, []))
        self.assertEqual(self.check_quilt([("a", {}), ("b", {})]), ({}, [("b", 0, ({}, ()))]))
        lying, steps = self.check_quilt([("a", {}), ("b", BASE), ("c", {})])
        self.assertEqual(lying, {cell: ("b", BASE[cell]) for cell in BASE})
        self.assertEqual(steps, [("b", 0, ({}, ())), ("c", 0, ({}, ()))])

    def test_pictures_apart(self):
        layers = [("a", {(5, 5): 1}), ("b", {(0, 0): 2}), ("c", {(9, 0): 3}), ("d", {(6, 5): 4})]
        lying, steps = self.check_quilt(layers)
        expected = [((0, 0), ("b", 2)), ((9, 0), ("c", 3)), ((5, 5), ("a", 1)), ((6, 5), ("d", 4))]
        self.assertEqual(list(lying.items()), expected)
        self.assertEqual(steps, [("b", 0, ({}, ())), ("c", 0, ({}, ())), ("d", 0, ({}, (0,)))])

    def test_over_one_another(self):
        # Alone over one another, all seams that show one picture cost nothing: the narrow one shows the first.
        layers = [(name, {(0, 0): at, (1, 0): 5 * at}) for at, name in enumerate("abc")]
        lying, steps = self.check_quilt(layers)
        self.assertEqual(lying, {(0, 0): ("a", 0), (1, 0): ("a", 0)})
        self.assertEqual([(name, price, paper[0]) for name, price, paper in steps], [
            ("b", 0, {(0, 0): 0, (1, 0): 0}),
            ("c", 0, {(0, 0): 0, (1, 0): 0}),
        ])

    def test_the_same_picture_twice(self):
        lying, steps = self.check_quilt([("a", BASE), ("b", BASE)])
        self.assertEqual({name for name, _ in lying.values()}, {"a"})
        self.assertEqual(steps[0][1], 0)

    def test_order_of_the_layers(self):
        names = []
        for layers in ([("a", BASE), ("b", OVER)], [("b", OVER), ("a", BASE)]):
            lying = self.check_quilt(layers)[0]
            names.append([name for name, _ in lying.values()])
        self.assertEqual(names, [["a", "b", "b", "b"], ["a", "b", "b", "b"]])

    def test_laid_over_what_lies(self):
        # The third picture lies over parts of both, and its seam has the values that lie.
        first, second, third = picture("1 2 3"), picture("9 3 4", 1), picture("1 2 3 4 5\n1 1 1 1 1")
        lying = self.check_quilt([("x", first), ("y", second), ("z", third)])[0]
        self.assertEqual([name for name, _ in lying.values()][-5:], ["z"] * 5)

    def test_all_choices(self):
        for layers in random_layers(120, 1):
            self.check_quilt(layers)

    def test_new_lists(self):
        layers = [("a", dict(BASE)), ("b", dict(OVER))]
        lying, steps = quilt(layers)
        expected = copy.deepcopy((lying, steps))
        layers[0][1].clear()
        layers.clear()
        self.assertEqual((lying, steps), expected)
        steps[0][2][0].clear()
        steps.clear()
        lying.clear()
        self.assertEqual(quilt([("a", BASE), ("b", OVER)]), expected)

    def test_thirty_pictures_in_short_time(self):
        source = random.Random(2)
        layers = []
        for at in range(30):
            view = (f"v{at}", tuple(tuple(source.randint(0, 999) for _ in range(12)) for _ in range(12)))
            layers.append((view[0], picture_of(view, (0, 3 * at % 17, 5 * at % 23, at))))
        lying, steps = quilt(layers)
        self.assertEqual(len(steps), 29)
        self.assertEqual(list(lying), by_rows({cell for _, pictured in layers for cell in pictured}))


class Names(QuiltCase):
    def check_clashing(self, names, expected):
        with self.assertRaises(Clashing) as caught:
            quilt([(name, dict(BASE)) for name in names])
        self.assertEqual(caught.exception.name, expected)

    def test_names_twice(self):
        self.check_clashing(["a", "a"], "a")
        self.check_clashing(["a", "b", "a"], "a")
        self.check_clashing(["b", "c", "c", "b"], "c")
        self.check_clashing(["b", "c", "b", "c"], "b")
        self.check_clashing(["a", "b", "c", "d", "c", "a", "a"], "c")

    def test_names_of_empty_pictures(self):
        with self.assertRaises(Clashing) as caught:
            quilt([("a", {}), ("b", {}), ("b", {})])
        self.assertEqual(caught.exception.name, "b")


class Lying(QuiltCase):
    def unchanged(self, function, lying):
        before = list(lying.items())
        try:
            return function(lying)
        finally:
            self.assertEqual(list(lying.items()), before)

    def test_values(self):
        lying = quilt([("a", BASE), ("b", OVER)])[0]
        found = self.unchanged(values, lying)
        self.assertIs(type(found), dict)
        self.assertEqual(list(found.items()), [((0, 0), 5), ((1, 0), 5), ((2, 0), 4), ((3, 0), 4)])
        found.clear()
        self.assertEqual(len(values(lying)), 4)
        self.assertEqual(values({}), {})

    def test_shares(self):
        names = {(0, 0): "m", (1, 0): "b", (2, 0): "m", (-1, 1): "a", (0, 1): "b", (4, 1): "m"}
        lying = {cell: (names[cell], 5) for cell in names}
        found = self.unchanged(shares, lying)
        self.assertIs(type(found), dict)
        self.assertEqual(list(found.items()), [("m", 3), ("b", 2), ("a", 1)])
        self.assertEqual(shares({}), {})

    def test_shares_without_hidden_names(self):
        lying = quilt([("a", BASE), ("b", BASE), ("c", {(0, -1): 7})])[0]
        self.assertEqual(list(shares(lying).items()), [("c", 1), ("a", 3)])

    def test_rows(self):
        lying = {(2, -1): ("a", 5), (-1, 0): ("b", -7), (0, 0): ("a", 0), (1, 2): ("c", 9)}
        found = self.unchanged(quilt_rows, lying)
        expected = (
            (None, None, None, 5),
            (-7, 0, None, None),
            (None, None, None, None),
            (None, None, 9, None),
        )
        self.assertEqual(found, expected)
        self.assertEqual([type(row) for row in (found, *found)], [tuple] * 5)

    def test_rows_of_one_cell(self):
        self.assertEqual(quilt_rows({(7, -9): ("a", 3)}), ((3,),))

    def test_rows_if_nothing_lies(self):
        self.assertEqual(quilt_rows({}), ())

    def test_of_quilts(self):
        for layers in random_layers(60, 3):
            lying = quilt(layers)[0]
            self.assertEqual(list(values(lying).items()), [(cell, lying[cell][1]) for cell in lying])
            names = [name for name, _ in lying.values()]
            counted = [(name, names.count(name)) for name in sorted(set(names), key=names.index)]
            self.assertEqual(list(shares(lying).items()), counted)
            self.check_rows(lying)

    def check_rows(self, lying):
        rows = quilt_rows(lying)
        if not lying:
            self.assertEqual(rows, ())
            return
        left, top = min(x for x, _ in lying), min(y for _, y in lying)
        told = {}
        for y, row in enumerate(rows):
            for x, value in enumerate(row):
                if value is not None:
                    told[left + x, top + y] = value
        self.assertEqual(told, values(lying))
        self.assertEqual(len(rows), max(y for _, y in lying) - top + 1)
        self.assertEqual({len(row) for row in rows}, {max(x for x, _ in lying) - left + 1})


if __name__ == "__main__":
    unittest.main()

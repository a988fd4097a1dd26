"""Promises 31.1 to 31.5: pictures, choices, their costs, seams and their nets."""

import copy
import random
import unittest

from laidviews.errors import Misused
from laidviews.flow import greatest_flow, is_flow, side_cost, worth
from laidviews.seam import cost, difference, narrow_seam, neighbours, net_of, overlap, seam_paper, shown, wide_seam

from plain import by_rows, choices_of, ones, plain_cost, plain_difference, plain_pairs, plain_shows, seams_of
from samples import picture, picture_pairs, random_bound

# The example of the document.
BASE = {(0, 0): 5, (1, 0): 5, (2, 0): 9}
OVER = {(1, 0): 5, (2, 0): 4, (3, 0): 4}

# Two pictures with holes and negative values; they have (1, 0), (2, 0), (1, 1), (2, 1) and (1, 2) in common.
HOLED = picture("1 2 3 .\n4 5 6 .\n. 8 . .")
OTHER = picture(". -2 3 1\n. 9 -6 1\n7 8 7 .")


def shuffled(pictured, seed):
    """The same picture with its cells in another order."""
    return dict(random.Random(seed).sample(list(pictured.items()), len(pictured)))


class SeamCase(unittest.TestCase):
    def unchanged(self, function, *arguments):
        """Call, and check that the dicts among the arguments stay as they are, and the order of their keys."""
        before = [list(value.items()) if isinstance(value, dict) else value for value in arguments]
        try:
            return function(*arguments)
        finally:
            after = [list(value.items()) if isinstance(value, dict) else value for value in arguments]
            self.assertEqual(after, before)

    def check_refused(self, why, function, *arguments):
        with self.assertRaises(Misused) as caught:
            self.unchanged(function, *arguments)
        self.assertEqual(caught.exception.why, why)


class Pictures(SeamCase):
    def check_overlap(self, base, over, expected):
        found = self.unchanged(overlap, base, over)
        self.assertIs(type(found), list)
        self.assertEqual(found, expected)

    def check_neighbours(self, base, over, expected):
        found = self.unchanged(neighbours, base, over)
        self.assertIs(type(found), list)
        self.assertEqual(found, expected)
        self.assertEqual({type(pair) for pair in found} | {tuple}, {tuple})

    def test_overlap(self):
        self.check_overlap(BASE, OVER, [(1, 0), (2, 0)])
        self.check_overlap(HOLED, OTHER, [(1, 0), (2, 0), (1, 1), (2, 1), (1, 2)])
        self.check_overlap(OTHER, HOLED, [(1, 0), (2, 0), (1, 1), (2, 1), (1, 2)])

    def test_overlap_over_one_another(self):
        cells = {(x, y): 1 for x in (2, -1, 0) for y in (1, -2)}
        self.check_overlap(cells, shuffled(cells, 1), [(-1, -2), (0, -2), (2, -2), (-1, 1), (0, 1), (2, 1)])

    def test_overlap_of_pictures_apart(self):
        self.check_overlap({(0, 0): 1}, {(1, 0): 1}, [])
        self.check_overlap({(0, 0): 1}, {}, [])
        self.check_overlap({}, {(0, 0): 1}, [])
        self.check_overlap({}, {}, [])

    def test_difference(self):
        for cell, expected in [
            ((0, 0), 0),
            ((1, 0), 4),
            ((2, 0), 0),
            ((3, 0), 0),
            ((1, 1), 4),
            ((2, 1), 12),
            ((0, 2), 0),
            ((1, 2), 0),
            ((2, 2), 0),
        ]:
            self.assertEqual(self.unchanged(difference, HOLED, OTHER, cell), expected)
            self.assertEqual(self.unchanged(difference, OTHER, HOLED, cell), expected)

    def test_neighbours(self):
        self.check_neighbours(BASE, OVER, [((0, 0), (1, 0)), ((1, 0), (2, 0)), ((2, 0), (3, 0))])
        pairs = [
            ((0, 0), (1, 0)),
            ((0, 0), (0, 1)),
            ((1, 0), (2, 0)),
            ((1, 0), (1, 1)),
            ((2, 0), (3, 0)),
            ((2, 0), (2, 1)),
            ((3, 0), (3, 1)),
            ((0, 1), (1, 1)),
            ((0, 1), (0, 2)),
            ((1, 1), (2, 1)),
            ((1, 1), (1, 2)),
            ((2, 1), (3, 1)),
            ((2, 1), (2, 2)),
            ((0, 2), (1, 2)),
            ((1, 2), (2, 2)),
        ]
        self.check_neighbours(HOLED, OTHER, pairs)
        self.check_neighbours(shuffled(OTHER, 2), shuffled(HOLED, 3), pairs)

    def test_neighbours_of_pictures_beside_one_another(self):
        self.check_neighbours({(0, 0): 1}, {(1, 0): 1}, [((0, 0), (1, 0))])
        self.check_neighbours({(0, 1): 1}, {(0, 0): 1}, [((0, 0), (0, 1))])
        self.check_neighbours({(-1, -1): 1}, {(-2, -1): 1}, [((-2, -1), (-1, -1))])

    def test_no_neighbours(self):
        self.check_neighbours({}, {}, [])
        self.check_neighbours({(0, 0): 1}, {(0, 0): 2}, [])
        # With a corner in common only, and with a cell between.
        self.check_neighbours({(0, 0): 1, (1, 1): 1}, {(5, 5): 1, (4, 6): 1, (2, 0): 1, (3, 1): 1}, [])

    def test_all_cells_tried(self):
        for base, over in picture_pairs(60, 1):
            self.check_overlap(base, over, by_rows(base.keys() & over.keys()))
            self.check_neighbours(base, over, plain_pairs(base, over))
            for cell in base | over:
                self.assertEqual(difference(base, over, cell), plain_difference(base, over, cell))


class Costs(SeamCase):
    def check_cost(self, base, over, choice, expected):
        self.assertEqual(self.unchanged(cost, base, over, choice), expected)

    def test_example(self):
        for first, second, expected in [(1, 1, 0), (0, 0, 5), (1, 0, 10), (0, 1, 5)]:
            self.check_cost(BASE, OVER, {(1, 0): first, (2, 0): second}, expected)
            self.check_cost(BASE, OVER, {(2, 0): second, (1, 0): first}, expected)

    def test_one_cell(self):
        # All four neighbours of the cell in the middle show the base, so that 1 costs four times.
        around = {(1, 0): 1, (0, 1): 1, (1, 1): 5, (2, 1): 1, (1, 2): 1}
        self.check_cost(around, {(1, 1): -5}, {(1, 1): 1}, 40)
        self.check_cost(around, {(1, 1): -5}, {(1, 1): 0}, 0)
        self.check_cost({(1, 1): -5}, around, {(1, 1): 1}, 0)
        self.check_cost({(1, 1): -5}, around, {(1, 1): 0}, 40)

    def test_the_differences_of_both_cells(self):
        base, over = picture("1 2\n3 4"), picture("1 4\n8 14")
        for choice, expected in [
            ((0, 0, 0, 0), 0),
            ((1, 0, 0, 0), 2 + 5),
            ((0, 1, 0, 0), 2 + 12),
            ((0, 0, 1, 0), 5 + 15),
            ((0, 0, 0, 1), 12 + 15),
            ((0, 1, 0, 1), 2 + 15),
            ((1, 0, 0, 1), 2 + 5 + 12 + 15),
            ((1, 1, 1, 1), 0),
        ]:
            self.check_cost(base, over, dict(zip(overlap(base, over), choice)), expected)

    def test_nothing_overlaps(self):
        for base, over in [({}, {}), ({(0, 0): 5}, {(1, 0): 9}), ({}, OVER), (BASE, {})]:
            self.check_cost(base, over, {}, 0)

    def test_all_choices(self):
        for base, over in picture_pairs(50, 2):
            for choice in choices_of(base, over, ()):
                self.check_cost(base, over, choice, plain_cost(base, over, choice))


class Shown(SeamCase):
    def check_shown(self, base, over, choice, expected):
        found = self.unchanged(shown, base, over, choice)
        self.assertIs(type(found), dict)
        self.assertEqual(list(found.items()), list(expected.items()))

    def test_example(self):
        self.check_shown(BASE, OVER, {(1, 0): 1, (2, 0): 1}, {(0, 0): 5, (1, 0): 5, (2, 0): 4, (3, 0): 4})
        self.check_shown(BASE, OVER, {(1, 0): 1, (2, 0): 0}, {(0, 0): 5, (1, 0): 5, (2, 0): 9, (3, 0): 4})

    def test_holes(self):
        choice = {(1, 0): 0, (2, 0): 1, (1, 1): 1, (2, 1): 0, (1, 2): 1}
        expected = picture("1 2 3 1\n4 9 6 1\n7 8 7 .")
        self.check_shown(HOLED, OTHER, choice, expected)
        self.check_shown(shuffled(HOLED, 4), shuffled(OTHER, 5), shuffled(choice, 6), expected)

    def test_nothing_overlaps(self):
        self.check_shown({}, {}, {}, {})
        self.check_shown({}, shuffled(OTHER, 7), {}, OTHER)
        self.check_shown(shuffled(OTHER, 7), {}, {}, OTHER)
        self.check_shown({(1, 0): 5}, {(0, 0): 6}, {}, {(0, 0): 6, (1, 0): 5})

    def test_all_choices(self):
        for base, over in picture_pairs(30, 3):
            for choice in choices_of(base, over, ()):
                expected = {}
                for cell in by_rows(base | over):
                    expected[cell] = (over if plain_shows(base, over, choice, cell) else base)[cell]
                self.check_shown(base, over, choice, expected)

    def test_new_dicts(self):
        choice = {(1, 0): 1, (2, 0): 1}
        shown(BASE, OVER, choice).clear()
        self.check_shown(BASE, OVER, choice, {(0, 0): 5, (1, 0): 5, (2, 0): 4, (3, 0): 4})


class NetCase(SeamCase):
    def check_net(self, base, over, bound, expected):
        found = self.unchanged(net_of, base, over, bound)
        self.assertIs(type(found), tuple)
        self.assertEqual(found, expected)
        self.assertIs(type(found[1]), list)
        self.assertEqual({type(edge) for edge in found[1]} | {tuple}, {tuple})


class NetsOf(NetCase):
    def test_example(self):
        self.check_net(BASE, OVER, (), (4, [(1, 2, 0), (2, 3, 5), (3, 0, 5)]))
        self.check_net(OVER, BASE, (), (4, [(0, 2, 0), (2, 3, 5), (3, 1, 5)]))

    def test_bound(self):
        self.check_net(BASE, OVER, {}, (4, [(1, 2, 0), (2, 3, 5), (3, 0, 5)]))
        self.check_net(BASE, OVER, {(1, 0): 0}, (3, [(1, 2, 5), (2, 0, 5)]))
        self.check_net(BASE, OVER, {(1, 0): 1}, (3, [(1, 0, 0), (0, 2, 5), (2, 0, 5)]))
        self.check_net(BASE, OVER, {(2, 0): 0}, (3, [(1, 2, 0), (2, 1, 5), (1, 0, 5)]))
        self.check_net(BASE, OVER, {(2, 0): 1}, (3, [(1, 2, 0), (2, 0, 5)]))
        self.check_net(BASE, OVER, {(2, 0): 0, (1, 0): 1}, (2, [(1, 0, 0), (0, 1, 5), (1, 0, 5)]))
        self.check_net(BASE, OVER, {(2, 0): 1, (1, 0): 1}, (2, [(1, 0, 0)]))
        self.check_net(BASE, OVER, {(2, 0): 0, (1, 0): 0}, (2, [(1, 0, 5)]))

    def test_order_of_the_edges(self):
        edges = [
            (1, 2, 4),
            (2, 3, 4),
            (2, 4, 8),
            (3, 0, 0),
            (3, 5, 12),
            (1, 4, 4),
            (1, 0, 0),
            (4, 5, 16),
            (4, 6, 4),
            (5, 0, 12),
            (5, 0, 12),
            (0, 6, 0),
            (6, 0, 0),
        ]
        self.check_net(HOLED, OTHER, (), (7, edges))
        self.check_net(shuffled(HOLED, 8), shuffled(OTHER, 9), {}, (7, edges))

    def test_pictures_beside_one_another(self):
        self.check_net({(0, 0): 5}, {(1, 0): 9}, (), (2, [(1, 0, 0)]))
        self.check_net({(0, 1): 5}, {(0, 0): 9}, (), (2, [(0, 1, 0)]))
        self.check_net({(0, 0): 5}, {(2, 0): 9}, (), (2, []))
        self.check_net({(0, 0): 5, (1, 0): 5}, {(2, 1): 9, (2, 2): 9}, (), (2, []))
        self.check_net({}, {}, (), (2, []))

    def test_over_one_another(self):
        self.check_net({(0, 0): 5, (1, 0): 6}, {(0, 0): 9, (1, 0): -6}, (), (4, [(2, 3, 16)]))
        self.check_net({(0, 0): 5}, {(0, 0): 9}, (), (3, []))

    def test_new_lists(self):
        net_of(BASE, OVER, ())[1].clear()
        self.check_net(BASE, OVER, (), (4, [(1, 2, 0), (2, 3, 5), (3, 0, 5)]))

    def test_bound_refused(self):
        for function in (net_of, narrow_seam, wide_seam):
            for cell in [(0, 0), (3, 0), (1, 1), (-1, 0), (9, 9)]:
                self.check_refused("bound", function, BASE, OVER, {cell: 0})
                self.check_refused("bound", function, BASE, OVER, {cell: 1})
                self.check_refused("bound", function, BASE, OVER, {(1, 0): 1, cell: 1})
            for value in (2, -1, 10 ** 20, None, True, False):
                self.check_refused("bound", function, BASE, OVER, {(1, 0): value})
                self.check_refused("bound", function, BASE, OVER, {(2, 0): 1, (1, 0): value})
            self.check_refused("bound", function, {}, {}, {(0, 0): 1})

    def test_as_the_document_says(self):
        source = random.Random(4)
        for base, over in picture_pairs(100, 4):
            bound = random_bound(source, base, over)
            nodes = {cell: 0 if cell in over else 1 for cell in base | over}
            nodes.update({cell: 1 - bound[cell] for cell in bound})
            free = [cell for cell in by_rows(base.keys() & over.keys()) if cell not in bound]
            nodes.update({cell: 2 + at for at, cell in enumerate(free)})
            edges = []
            for one, two in plain_pairs(base, over):
                room = plain_difference(base, over, one) + plain_difference(base, over, two)
                if nodes[one] != nodes[two]:
                    edges.append((nodes[one], nodes[two], room))
            self.check_net(base, over, bound, (2 + len(free), edges))

    def test_sides_cost_what_choices_cost(self):
        source = random.Random(5)
        for base, over in picture_pairs(30, 5):
            bound = random_bound(source, base, over)
            edges = net_of(base, over, bound)[1]
            free = [cell for cell in by_rows(base.keys() & over.keys()) if cell not in bound]
            for choice in choices_of(base, over, bound):
                side = [0, *[2 + at for at, cell in enumerate(free) if choice[cell] == 1]]
                self.assertEqual(side_cost(edges, side), cost(base, over, choice))


class Seams(SeamCase):
    def check_seams(self, base, over, bound):
        """Compare both seams with all choices; return how many choices are seams."""
        least, seams = seams_of(base, over, bound)
        narrow = self.unchanged(narrow_seam, base, over, bound)
        wide = self.unchanged(wide_seam, base, over, bound)
        for seam in (narrow, wide):
            self.assertIs(type(seam), dict)
            self.assertEqual(list(seam), overlap(base, over))
            self.assertEqual({type(value) for value in seam.values()} | {int}, {int})
            self.assertIn(seam, seams)
            self.assertEqual(cost(base, over, seam), least)
        for seam in seams:
            self.assertLessEqual(ones(narrow), ones(seam))
            self.assertLessEqual(ones(seam), ones(wide))
        return len(seams)

    def test_example(self):
        self.assertEqual(self.check_seams(BASE, OVER, ()), 1)
        self.assertEqual(list(narrow_seam(BASE, OVER).items()), [((1, 0), 1), ((2, 0), 1)])
        self.assertEqual(list(wide_seam(BASE, OVER).items()), [((1, 0), 1), ((2, 0), 1)])

    def test_one_picture_right_over_the_other(self):
        cells = {(x, y): x - y for x in range(2) for y in range(3)}
        moved = {cell: cells[cell] + 1 for cell in cells}
        # Nothing shows either picture but the overlap, so all 0 and all 1 cost nothing.
        self.assertEqual(self.check_seams(cells, moved, ()), 2)
        self.assertEqual(ones(narrow_seam(cells, moved)), set())
        self.assertEqual(ones(wide_seam(cells, moved)), set(cells))
        self.assertEqual(self.check_seams(cells, dict(cells), ()), 2 ** 6)

    def test_bound_cells(self):
        cells = {(x, y): x - y for x in range(2) for y in range(3)}
        moved = {cell: cells[cell] + 1 for cell in cells}
        self.check_seams(cells, moved, {(0, 0): 1})
        self.assertEqual(ones(narrow_seam(cells, moved, {(0, 0): 1})), set(cells))
        self.assertEqual(ones(wide_seam(cells, moved, {(1, 2): 0})), set())
        self.check_seams(cells, moved, {(0, 0): 1, (1, 2): 0})
        self.check_seams(cells, moved, {cell: cell[0] for cell in cells})
        self.assertEqual(narrow_seam(cells, moved, {cell: cell[0] for cell in cells}), {
            (0, 0): 0, (1, 0): 1, (0, 1): 0, (1, 1): 1, (0, 2): 0, (1, 2): 1,
        })
        # Bound in another order than that of the overlap.
        bound = {(1, 2): 0, (0, 0): 1, (1, 0): 1}
        self.assertEqual(list(wide_seam(cells, moved, bound)), overlap(cells, moved))

    def test_bound_by_keyword(self):
        self.assertEqual(narrow_seam(base=BASE, over=OVER, bound={(1, 0): 0}), {(1, 0): 0, (2, 0): 0})
        self.assertEqual(wide_seam(base=BASE, over=OVER, bound={(1, 0): 0}), {(1, 0): 0, (2, 0): 1})

    def test_pictures_apart(self):
        for base, over in [({}, {}), ({}, OVER), (BASE, {}), ({(0, 0): 1}, {(1, 0): 2}), ({(0, 0): 1}, {(9, 9): 2})]:
            self.assertEqual(narrow_seam(base, over), {})
            self.assertEqual(wide_seam(base, over), {})

    def test_holes(self):
        self.check_seams(HOLED, OTHER, ())
        self.check_seams(OTHER, HOLED, ())
        self.check_seams(HOLED, OTHER, {(1, 1): 0, (2, 0): 1})

    def test_all_choices(self):
        several = sum(self.check_seams(base, over, ()) > 1 for base, over in picture_pairs(150, 6))
        self.assertGreater(several, 20)

    def test_all_choices_that_keep_bound_cells(self):
        source = random.Random(7)
        for base, over in picture_pairs(150, 7):
            self.check_seams(base, over, random_bound(source, base, over))

    def test_new_dicts(self):
        narrow_seam(BASE, OVER).clear()
        wide_seam(BASE, OVER).clear()
        self.check_seams(BASE, OVER, ())

    def test_great_pictures_in_short_time(self):
        source = random.Random(8)
        base = {(x, y): source.randint(0, 999) for x in range(30) for y in range(30)}
        over = {(x + 6, y + 6): source.randint(0, 999) for x in range(30) for y in range(30)}
        narrow, wide = narrow_seam(base, over), wide_seam(base, over)
        self.assertEqual(cost(base, over, narrow), cost(base, over, wide))
        self.assertLessEqual(ones(narrow), ones(wide))


class SeamPapers(SeamCase):
    def check_paper(self, base, over, bound, choice):
        paper = self.unchanged(seam_paper, base, over, bound, choice)
        self.assertEqual((type(paper), len(paper)), (tuple, 2))
        copied, flow = paper
        self.assertEqual((type(copied), type(flow)), (dict, tuple))
        self.assertEqual(list(copied.items()), list(choice.items()))
        count, edges = net_of(base, over, bound)
        self.assertTrue(is_flow(count, edges, list(flow)))
        self.assertEqual(worth(edges, flow), plain_cost(base, over, choice))
        self.assertEqual(worth(edges, flow), worth(edges, greatest_flow(count, edges)))

    def check_not_a_seam(self, base, over, bound, choice):
        self.check_refused("choice", seam_paper, base, over, bound, choice)

    def test_example(self):
        self.check_paper(BASE, OVER, (), {(1, 0): 1, (2, 0): 1})
        self.check_paper(BASE, OVER, {}, {(2, 0): 1, (1, 0): 1})
        self.check_paper(BASE, OVER, {(1, 0): 0}, {(1, 0): 0, (2, 0): 1})
        self.check_paper(BASE, OVER, {(1, 0): 0}, {(1, 0): 0, (2, 0): 0})
        self.assertEqual(seam_paper(BASE, OVER, {(1, 0): 0}, {(1, 0): 0, (2, 0): 0})[1], (-5, -5))

    def test_a_copy(self):
        choice = {(1, 0): 1, (2, 0): 1}
        paper = seam_paper(BASE, OVER, (), choice)
        choice[1, 0] = 0
        self.assertEqual(paper[0], {(1, 0): 1, (2, 0): 1})
        paper[0].clear()
        self.assertEqual(choice, {(1, 0): 0, (2, 0): 1})

    def test_not_least(self):
        for first, second in [(0, 0), (1, 0), (0, 1)]:
            self.check_not_a_seam(BASE, OVER, (), {(1, 0): first, (2, 0): second})
        # What is least without bound cells is not least with them, and the other way round.
        self.check_not_a_seam(BASE, OVER, {(2, 0): 0}, {(1, 0): 1, (2, 0): 0})
        self.check_paper(BASE, OVER, {(2, 0): 0}, {(1, 0): 0, (2, 0): 0})

    def test_bound_cells_not_kept(self):
        self.check_not_a_seam(BASE, OVER, {(1, 0): 0}, {(1, 0): 1, (2, 0): 1})
        cells = {(0, 0): 1, (1, 0): 2}
        moved = {(0, 0): 2, (1, 0): 3}
        # The choice costs as little as a seam does.
        self.check_not_a_seam(cells, moved, {(0, 0): 1}, {(0, 0): 0, (1, 0): 0})
        self.check_paper(cells, moved, {(0, 0): 1}, {(0, 0): 1, (1, 0): 1})

    def test_other_cells(self):
        for choice in [
            {},
            {(1, 0): 1},
            {(2, 0): 1},
            {(1, 0): 1, (2, 0): 1, (0, 0): 1},
            {(1, 0): 1, (2, 0): 1, (3, 0): 1},
            {(1, 0): 1, (2, 0): 1, (0, 0): 0},
            {(1, 0): 1, (2, 0): 1, (7, 7): 1},
            {(1, 0): 1, (3, 0): 1},
            {(True, 0): 1, (2, 0): 1},
            {(1, False): 1, (2, 0): 1},
            {(1.0, 0): 1, (2, 0): 1},
        ]:
            self.check_not_a_seam(BASE, OVER, (), choice)
        self.check_not_a_seam({}, {}, (), {(0, 0): 1})
        self.check_paper({}, {}, (), {})

    def test_other_values(self):
        for value in (2, -1, True, 1.0, None, "1"):
            self.check_not_a_seam(BASE, OVER, (), {(1, 0): 1, (2, 0): value})
        cells = {(0, 0): 1, (1, 0): 2}
        self.check_not_a_seam(cells, {(0, 0): 2, (1, 0): 3}, (), {(0, 0): False, (1, 0): False})
        self.check_not_a_seam(cells, {(0, 0): 2, (1, 0): 3}, (), {(0, 0): 2, (1, 0): 2})

    def test_wrong_bound_cells(self):
        self.check_refused("bound", seam_paper, BASE, OVER, {(0, 0): 0}, {(1, 0): 1, (2, 0): 1})
        self.check_refused("bound", seam_paper, BASE, OVER, {(1, 0): 2}, {(1, 0): 1, (2, 0): 1})

    def test_all_choices(self):
        source = random.Random(9)
        for base, over in picture_pairs(60, 9):
            bound = random_bound(source, base, over)
            _, seams = seams_of(base, over, bound)
            for choice in choices_of(base, over, ()):
                if choice in seams:
                    self.check_paper(base, over, bound, choice)
                else:
                    self.check_not_a_seam(base, over, bound, choice)
            self.check_paper(base, over, bound, narrow_seam(base, over, bound))
            self.check_paper(base, over, bound, wide_seam(base, over, bound))

    def test_any_order_of_the_cells(self):
        for base, over in picture_pairs(30, 10):
            choice = shuffled(narrow_seam(base, over), 11)
            self.check_paper(shuffled(base, 12), shuffled(over, 13), (), copy.copy(choice))


if __name__ == "__main__":
    unittest.main()

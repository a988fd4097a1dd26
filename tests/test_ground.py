"""Promise 20.1: gathered grounds."""

import copy
import unittest

from laidviews.album import Album, show_album
from laidviews.ground import bounds, gather, picture_of, values_at
from laidviews.laying import groups, lay

from samples import album_with, small_albums

A = ("a", ((10, None, 12), (13, 14, None)))
B = ("b", ((7, 8), (None, 9)))
C = ("c", ((500,),))
D = ("d", ((None, None), (None, None)))


class GroundCase(unittest.TestCase):
    def check_gathered(self, album, group, expected):
        laying = lay(album)[1]
        before = (show_album(album), list(laying.items()))
        ground = gather(album, laying, group)
        self.assertIs(type(ground), dict)
        self.assertEqual(list(ground.items()), expected)
        self.assertEqual((show_album(album), list(laying.items())), before)


class Gathered(GroundCase):
    def test_one_view(self):
        told = [((0, 0), (("a", 10),)), ((2, 0), (("a", 12),)), ((0, 1), (("a", 13),)), ((1, 1), (("a", 14),))]
        self.check_gathered(album_with([A], []), 0, told)

    def test_two_views(self):
        told = [
            ((0, 0), (("a", 10),)),
            ((2, 0), (("a", 12),)),
            ((0, 1), (("a", 13),)),
            ((1, 1), (("a", 14), ("b", 4))),
            ((2, 1), (("b", 5),)),
            ((2, 2), (("b", 6),)),
        ]
        self.check_gathered(album_with([A, B], [("a", "b", 1, 1, 3)]), 0, told)

    def test_pairs_in_the_order_of_the_album(self):
        # Seen from b, a lies at (-1, -1) and is darker by 3.
        told = [
            ((-1, -1), (("a", 13),)),
            ((1, -1), (("a", 15),)),
            ((-1, 0), (("a", 16),)),
            ((0, 0), (("b", 7), ("a", 17))),
            ((1, 0), (("b", 8),)),
            ((1, 1), (("b", 9),)),
        ]
        self.check_gathered(album_with([B, A], [("a", "b", 1, 1, 3)]), 0, told)

    def test_cells_by_y_and_then_by_x(self):
        views = [("a", ((1, 2),)), ("b", ((3, 4),)), ("c", ((5,), (6,)))]
        links = [("a", "b", -5, 2, 0), ("a", "c", 9, -3, 0)]
        told = [
            ((9, -3), (("c", 5),)),
            ((9, -2), (("c", 6),)),
            ((0, 0), (("a", 1),)),
            ((1, 0), (("a", 2),)),
            ((-5, 2), (("b", 3),)),
            ((-4, 2), (("b", 4),)),
        ]
        self.check_gathered(album_with(views, links), 0, told)

    def test_groups_are_apart(self):
        album = album_with([C, A, B, D], [("a", "d", 0, 0, 0)])
        self.check_gathered(album, 0, [((0, 0), (("c", 500),))])
        told = [((0, 0), (("a", 10),)), ((2, 0), (("a", 12),)), ((0, 1), (("a", 13),)), ((1, 1), (("a", 14),))]
        self.check_gathered(album, 1, told)
        self.check_gathered(album, 2, [((0, 0), (("b", 7),)), ((1, 0), (("b", 8),)), ((1, 1), (("b", 9),))])

    def test_values_below_zero_and_above_readings(self):
        views = [("a", ((0,),)), ("b", ((0,),)), ("c", ((999,),))]
        links = [("a", "b", 0, 0, 999), ("c", "a", 0, 0, 999)]
        self.check_gathered(album_with(views, links), 0, [((0, 0), (("a", 0), ("b", -999), ("c", 1998)))])

    def test_without_readings(self):
        album = album_with([A, D, ("e", ((None,),))], [("e", "d", 1, 1, 1)])
        self.check_gathered(album, 1, [])

    def test_no_such_group(self):
        album = album_with([A, B], [("a", "b", 0, 0, 0)])
        for group in [1, 2, -1, 30, 10 ** 20]:
            self.check_gathered(album, group, [])
        self.check_gathered(Album(), 0, [])

    def test_new_dicts(self):
        album = album_with([A, B], [("a", "b", 1, 1, 3)])
        laying = lay(album)[1]
        first = gather(album, laying, 0)
        kept = dict(first)
        gather(album, laying, 0).clear()
        album.remove_view("b")
        laying.clear()
        self.assertEqual(first, kept)

    def test_kinds(self):
        album = album_with([A, B], [("a", "b", 1, 1, 3)])
        for pairs in gather(album, lay(album)[1], 0).values():
            self.assertEqual([type(value) for value in (pairs, *pairs)], [tuple] * (len(pairs) + 1))

    def test_small_albums(self):
        for bare in small_albums(100, 9):
            views = [(name, ((1, at), (None, 3))) for at, name in enumerate(bare.names())]
            album = album_with(views, bare.links())
            kind, laying = lay(album)
            if kind == "laid":
                for group in groups(album):
                    self.check_gathered(album, album.index(group[0]), self.plainly_gathered(album, laying, group))

    def plainly_gathered(self, album, laying, group):
        """What each cell of a wide ground is told, cell by cell."""
        told = []
        for y in range(-12, 13):
            for x in range(-12, 13):
                pairs = [(name, self.value_at(album.view(name), laying[name], x, y)) for name in group]
                pairs = tuple(pair for pair in pairs if pair[1] is not None)
                if pairs:
                    told.append(((x, y), pairs))
        return told

    def value_at(self, view, place, x, y):
        _, px, py, light = place
        if not (0 <= y - py < 2 and 0 <= x - px < 2) or view[1][y - py][x - px] is None:
            return None
        return view[1][y - py][x - px] - light


class Pictures(unittest.TestCase):
    def check_picture(self, view, place, expected):
        picture = picture_of(view, place)
        self.assertIs(type(picture), dict)
        self.assertEqual(list(picture.items()), expected)

    def test_row_by_row(self):
        self.check_picture(A, (0, 0, 0, 0), [((0, 0), 10), ((2, 0), 12), ((0, 1), 13), ((1, 1), 14)])

    def test_moved(self):
        self.check_picture(A, (0, 5, -3, 4), [((5, -3), 6), ((7, -3), 8), ((5, -2), 9), ((6, -2), 10)])
        self.check_picture(A, (7, -1, 1, -100), [((-1, 1), 110), ((1, 1), 112), ((-1, 2), 113), ((0, 2), 114)])

    def test_beyond_readings(self):
        self.check_picture(C, (0, 0, 0, 999), [((0, 0), -499)])
        self.check_picture(C, (0, 0, 0, -999), [((0, 0), 1499)])

    def test_the_group_does_not_matter(self):
        for group in (0, 1, 29):
            self.check_picture(C, (group, 1, 2, 3), [((1, 2), 497)])

    def test_without_readings(self):
        self.check_picture(D, (0, 1, 2, 3), [])

    def test_greatest_view(self):
        rows = tuple(tuple(range(12 * y, 12 * y + 12)) for y in range(12))
        expected = [((x - 99, y + 99), 12 * y + x - 9) for y in range(12) for x in range(12)]
        self.check_picture(("a", rows), (0, -99, 99, 9), expected)


class Bounds(unittest.TestCase):
    def check_bounds(self, cells, expected):
        ground = {cell: (("a", 1),) for cell in cells}
        found = bounds(ground)
        self.assertEqual((type(found), found), (type(expected), expected))
        self.assertEqual(ground, {cell: (("a", 1),) for cell in cells})

    def test_empty(self):
        self.check_bounds([], None)

    def test_one_cell(self):
        self.check_bounds([(3, -4)], (3, -4, 3, -4))

    def test_several_cells(self):
        self.check_bounds([(5, 1), (-2, 3), (0, -7), (1, 1)], (-2, -7, 5, 3))
        self.check_bounds([(0, 0), (9, 0), (10, 0)], (0, 0, 10, 0))
        self.check_bounds([(0, 0), (0, 9), (0, 10)], (0, 0, 0, 10))

    def test_gathered(self):
        album = album_with([A, B], [("b", "a", 3, -5, 0)])
        ground = gather(album, lay(album)[1], 0)
        self.assertEqual(bounds(ground), (-3, 0, 2, 6))
        self.assertIsNone(bounds(gather(album, lay(album)[1], 1)))


class Values(unittest.TestCase):
    GROUND = {
        (0, 0): (("a", 5), ("b", 3), ("c", 5), ("d", -7), ("e", 3)),
        (1, 0): (("b", 9),),
        (0, 1): (("a", 100), ("b", 20), ("c", 3)),
    }

    def check_values(self, cell, expected):
        ground = copy.deepcopy(self.GROUND)
        found = values_at(ground, cell)
        self.assertEqual((type(found), found), (list, expected))
        found.append("x")
        self.assertEqual(values_at(ground, cell), expected)
        self.assertEqual(ground, self.GROUND)

    def test_ascending_and_each_once(self):
        self.check_values((0, 0), [-7, 3, 5])
        self.check_values((0, 1), [3, 20, 100])

    def test_one_value(self):
        self.check_values((1, 0), [9])

    def test_no_such_cell(self):
        for cell in [(1, 1), (-1, 0), (0, -1), (99, 99)]:
            self.check_values(cell, [])
        self.assertEqual(values_at({}, (0, 0)), [])


if __name__ == "__main__":
    unittest.main()

"""Promise 22.1: fits."""

import random
import unittest

from laidviews.album import Album, is_link
from laidviews.errors import Misused
from laidviews.shifts import fits, link_of, overlap

from samples import album_with

A = ("a", ((1, 2, 3), (4, None, 6)))
B = ("b", ((10, 20), (None, 40), (50, 60)))
FULL = ("f", tuple(tuple(range(12 * y, 12 * y + 12)) for y in range(12)))
BLANK = ("g", ((None, None), (None, None)))


def reading_at(view, x, y):
    """The reading of a view at a cell, or None, also beyond the view."""
    rows = view[1]
    if not (0 <= y < len(rows) and 0 <= x < len(rows[0])):
        return None
    return rows[y][x]


def plain_overlap(one, two, dx, dy):
    """The cells of the overlap, each cell of the second view tried."""
    found = []
    for y in range(12):
        for x in range(12):
            first, second = reading_at(one, x + dx, y + dy), reading_at(two, x, y)
            if first is not None and second is not None:
                found.append((x, y, second - first))
    return found


def plain_fits(one, two, reach, errors, least, lights):
    """All fits, all shifts and lights tried one by one."""
    found = []
    for dx in range(-reach, reach + 1):
        for dy in range(-reach, reach + 1):
            cells = plain_overlap(one, two, dx, dy)
            for light in lights:
                wrong = sum(difference != light for _, _, difference in cells)
                if len(cells) >= least and wrong <= errors:
                    found.append((dx, dy, light, wrong))
    return found


def random_view(source, name, greatest):
    """A view of at most 4 times 4 readings."""
    width, height = source.randint(1, 4), source.randint(1, 4)
    choices = [None, *range(greatest + 1)]
    return (name, tuple(tuple(source.choice(choices) for _ in range(width)) for _ in range(height)))


class Overlap(unittest.TestCase):
    def check_overlap(self, one, two, dx, dy, expected):
        found = overlap(one, two, dx, dy)
        self.assertIs(type(found), list)
        self.assertEqual(found, expected)

    def test_without_a_shift(self):
        self.check_overlap(A, B, 0, 0, [(0, 0, 9), (1, 0, 18)])
        self.check_overlap(B, A, 0, 0, [(0, 0, -9), (1, 0, -18)])

    def test_every_direction(self):
        for dx, dy, expected in [
            (1, 0, [(0, 0, 8), (1, 0, 17), (1, 1, 34)]),
            (-1, 0, [(1, 0, 19), (1, 1, 36)]),
            (0, 1, [(0, 0, 6)]),
            (0, -1, [(1, 1, 38), (0, 2, 46)]),
            (1, 1, [(1, 0, 14)]),
            (1, -1, [(1, 1, 37), (1, 2, 54)]),
            (-1, 1, [(1, 0, 16)]),
            (-1, -1, [(1, 1, 39), (1, 2, 56)]),
            (2, 0, [(0, 0, 7)]),
            (0, -2, [(0, 2, 49), (1, 2, 58)]),
            (2, -2, [(0, 2, 47)]),
        ]:
            self.check_overlap(A, B, dx, dy, expected)

    def test_nothing_overlaps(self):
        for dx, dy in [(3, 0), (-2, 0), (0, 2), (0, -3), (3, -3), (99, 99), (-99, 0), (-2, 1), (2, -3)]:
            self.check_overlap(A, B, dx, dy, [])

    def test_cells_without_a_reading(self):
        self.check_overlap(A, BLANK, 0, 0, [])
        self.check_overlap(BLANK, A, 0, 0, [])
        self.check_overlap(("a", ((None, 5),)), ("b", ((7, None),)), 0, 0, [])
        self.check_overlap(("a", ((None, 5),)), ("b", ((7, None),)), 1, 0, [(0, 0, 2)])

    def test_zero_is_a_reading(self):
        self.check_overlap(("a", ((0, 0),)), ("b", ((0, 999),)), 0, 0, [(0, 0, 0), (1, 0, 999)])

    def test_all_cells_row_by_row(self):
        expected = [(x, y, -5 - 36) for y in range(9) for x in range(7)]
        self.check_overlap(FULL, FULL, 5, 3, expected)

    def test_against_each_cell_tried(self):
        source = random.Random(1)
        for _ in range(60):
            one, two = random_view(source, "a", 5), random_view(source, "b", 5)
            for dx in range(-5, 6):
                for dy in range(-5, 6):
                    self.check_overlap(one, two, dx, dy, plain_overlap(one, two, dx, dy))

    def test_new_lists(self):
        overlap(A, B, 0, 0).clear()
        self.check_overlap(A, B, 0, 0, [(0, 0, 9), (1, 0, 18)])


class Fits(unittest.TestCase):
    def check_fits(self, one, two, reach, errors, least, expected):
        found = fits(one, two, reach=reach, errors=errors, least=least)
        self.assertIs(type(found), list)
        self.assertEqual(found, expected)
        self.assertEqual({type(fit) for fit in found} | {tuple}, {tuple})

    def test_example(self):
        one, two = ("a", ((1, 2, 3),)), ("b", ((5, 6),))
        self.check_fits(one, two, 1, 0, 2, [(0, 0, 4, 0), (1, 0, 3, 0)])

    def test_example_with_smaller_overlaps(self):
        one, two = ("a", ((1, 2, 3),)), ("b", ((5, 6),))
        expected = [(-1, 0, 5, 0), (0, 0, 4, 0), (1, 0, 3, 0)]
        self.check_fits(one, two, 1, 0, 1, expected)
        self.check_fits(one, two, 2, 0, 1, expected + [(2, 0, 2, 0)])

    def test_several_lights_for_one_shift(self):
        one, two = ("a", ((1, 1, 1, 1),)), ("b", ((1, 3, 3, 1),))
        self.check_fits(one, two, 0, 1, 2, [])
        self.check_fits(one, two, 0, 2, 3, [(0, 0, 0, 2), (0, 0, 2, 2)])
        self.check_fits(one, ("b", ((5, 1, 3, 2),)), 0, 3, 4, [(0, 0, light, 3) for light in (0, 1, 2, 4)])

    def test_reach(self):
        one, two = ("a", ((5, None, None, None),)), ("b", ((None, None, None, 7),))
        self.check_fits(one, two, 2, 0, 1, [])
        self.check_fits(one, two, 3, 0, 1, [(-3, 0, 2, 0)])
        self.check_fits(two, one, 3, 0, 1, [(3, 0, -2, 0)])
        self.check_fits(two, one, 2, 0, 1, [])
        one, two = ("a", ((5,), (None,), (None,))), ("b", ((None,), (None,), (7,)))
        self.check_fits(one, two, 1, 0, 1, [])
        self.check_fits(one, two, 2, 0, 1, [(0, -2, 2, 0)])
        self.check_fits(two, one, 2, 0, 1, [(0, 2, -2, 0)])
        self.check_fits(two, one, 1, 0, 1, [])

    def test_no_reach(self):
        self.check_fits(A, A, 0, 0, 5, [(0, 0, 0, 0)])
        self.check_fits(A, A, 0, 0, 6, [])

    def test_greatest_reach(self):
        self.check_fits(("a", ((3,),)), ("b", ((4,),)), 99, 0, 1, [(0, 0, 1, 0)])
        self.check_fits(FULL, FULL, 99, 0, 144, [(0, 0, 0, 0)])
        self.assertEqual(len(fits(FULL, FULL, reach=99, errors=0, least=1)), 23 * 23)

    def test_errors_at_the_edge(self):
        one, two = ("a", ((1, 2, 3, 4, 5),)), ("b", ((1, 2, 3, 9, 8),))
        self.check_fits(one, two, 0, 1, 5, [])
        self.check_fits(one, two, 0, 2, 5, [(0, 0, 0, 2)])
        self.check_fits(one, two, 0, 2, 6, [])
        self.check_fits(one, two, 0, 4, 5, [(0, 0, 0, 2), (0, 0, 3, 4), (0, 0, 5, 4)])

    def test_greatest_lights(self):
        self.check_fits(("a", ((0,),)), ("b", ((999,),)), 0, 0, 1, [(0, 0, 999, 0)])
        self.check_fits(("a", ((999,),)), ("b", ((0,),)), 0, 0, 1, [(0, 0, -999, 0)])

    def test_without_readings(self):
        self.check_fits(A, BLANK, 5, 0, 1, [])
        self.check_fits(BLANK, BLANK, 5, 3, 4, [])

    def test_against_all_shifts_and_lights(self):
        source = random.Random(2)
        for _ in range(60):
            greatest = source.choice([0, 1, 3])
            one, two = random_view(source, "a", greatest), random_view(source, "b", greatest)
            for reach in (0, 1, 3, 5):
                errors = source.randint(0, 3)
                least = errors + source.randint(1, 3)
                expected = plain_fits(one, two, reach, errors, least, range(-4, 5))
                self.check_fits(one, two, reach, errors, least, expected)

    def test_new_lists(self):
        fits(A, A, reach=0, errors=0, least=5).append("x")
        self.check_fits(A, A, 0, 0, 5, [(0, 0, 0, 0)])


class FitsRefused(unittest.TestCase):
    def check_refused(self, why, reach, errors, least):
        with self.assertRaises(Misused) as caught:
            fits(A, B, reach=reach, errors=errors, least=least)
        self.assertEqual(caught.exception.why, why)

    def test_reach(self):
        for reach in (-1, -99, 100, 10 ** 9):
            self.check_refused("reach", reach, 0, 1)

    def test_errors(self):
        for errors, least in [(-1, 1), (-1, 0), (-5, -4), (0, 0), (0, -1), (1, 1), (5, 5), (5, 4), (7, 0)]:
            self.check_refused("errors", 0, errors, least)
            self.check_refused("errors", 99, errors, least)

    def test_reach_ahead_of_errors(self):
        for reach in (-1, 100):
            for errors, least in [(-1, 1), (0, 0), (3, 2)]:
                self.check_refused("reach", reach, errors, least)

    def test_allowed_edges(self):
        for reach in (0, 1, 98, 99):
            self.assertEqual(fits(A, BLANK, reach=reach, errors=0, least=1), [])
            self.assertEqual(fits(A, BLANK, reach=reach, errors=500, least=501), [])

    def test_by_keyword_only(self):
        with self.assertRaises(TypeError):
            fits(A, B, 1, 0, 1)


class Links(unittest.TestCase):
    def test_link(self):
        link = link_of(A, B, (3, -4, 5, 2))
        self.assertEqual(link, ("a", "b", 3, -4, 5))
        self.assertTrue(is_link(link))
        self.assertEqual(link_of(B, A, (-3, 4, -5, 0)), ("b", "a", -3, 4, -5))

    def test_links_of_all_fits(self):
        album = album_with([A, B], [])
        links = [link_of(A, B, fit) for fit in fits(A, B, reach=99, errors=1, least=2)]
        for link in links:
            album.add_link(link)
        self.assertEqual(album.links(), links)
        self.assertTrue(links)

    def test_a_fit_without_errors_keeps_all_readings(self):
        one, two = ("a", ((1, 2, 3),)), ("b", ((5, 6),))
        album = Album()
        album.add_view(one)
        album.add_view(two)
        album.add_link(link_of(one, two, (1, 0, 3, 0)))
        self.assertEqual(album.links(), [("a", "b", 1, 0, 3)])


if __name__ == "__main__":
    unittest.main()

"""Promise 2.1: names, readings and views."""

import copy
import string
import unittest

from laidviews.errors import Misused
from laidviews.pictures import is_name, is_reading, is_view, moved_light, readings, size

from samples import JUNK, Touchy

LOWER = string.ascii_lowercase


def rows_of(width, height, reading=5):
    return tuple(tuple(reading for _ in range(width)) for _ in range(height))


class Names(unittest.TestCase):
    def test_names(self):
        right = [*LOWER, "ab", "a1", "a0b9", "z9999999", "abcdefgh", "a" * 8, "a1234567", "end", "view", "link"]
        right += ["a" + sign for sign in LOWER + string.digits]
        for value in right:
            self.assertIs(is_name(value), True, value)

    def test_wrong_strings(self):
        wrong = ["", "A", "aB", "Ab", "1", "1a", "0", "9z", "_", "a_", "_a", "a b", " a", "a ", "a\n", "\na", "a-", "-a"]
        wrong += ["a.", ".", "a\t", "a" * 9, "abcdefghi", "a12345678", "a" * 100]
        wrong += ["\xe4", "a\xe4", "a\xb2", "a\u0663", "\u0430", "\u0430b", "a\x00", "\uff41", "a\uff11"]
        wrong += [digit + "a" for digit in string.digits]
        wrong += [sign for sign in string.ascii_uppercase + string.punctuation]
        wrong += ["a" + sign for sign in string.ascii_uppercase + string.punctuation]
        for value in wrong:
            self.assertIs(is_name(value), False, repr(value))

    def test_other_kinds(self):
        others = [*JUNK, None, 0, 1, b"abc", ["a"], ("a",), ("a", "b"), {"a"}, ["a", "b"], Touchy()]
        for value in others:
            self.assertIs(is_name(value), False, type(value))


class Readings(unittest.TestCase):
    def test_readings(self):
        for value in [None, *range(1000)]:
            self.assertIs(is_reading(value), True, value)

    def test_wrong_readings(self):
        wrong = [-1, -2, -999, 1000, 1001, 9999, "0", "5", "a", ".", (5,), [5], Touchy(), *JUNK]
        for value in wrong:
            self.assertIs(is_reading(value), False, type(value))


class Views(unittest.TestCase):
    def test_views(self):
        right = [
            ("a", ((0,),)),
            ("a", ((None,),)),
            ("a", ((999,),)),
            ("abcdefgh", ((1, None), (2, 3))),
            ("z9", ((None, None, None), (None, None, None))),
        ]
        for value in right:
            self.assertIs(is_view(value), True, value)

    def test_every_size(self):
        for width in range(15):
            for height in range(15):
                right = 1 <= width <= 12 and 1 <= height <= 12
                self.assertIs(is_view(("a", rows_of(width, height))), right, (width, height))

    def test_wrong_names(self):
        for name in ["", "A", "1a", "a" * 9, "a b", "a_", None, 1, True, b"a", ["a"], ("a",), Touchy()]:
            self.assertIs(is_view((name, ((1,),))), False, type(name))

    def test_wrong_readings(self):
        for reading in [-1, 1000, True, False, 1.0, "1", ".", (1,), [1], object(), Touchy(), *JUNK]:
            self.assertIs(is_view(("a", ((reading,),))), False, type(reading))
            self.assertIs(is_view(("a", ((1, 2), (3, reading)))), False, type(reading))
            self.assertIs(is_view(("a", ((reading, 2), (3, 4)))), False, type(reading))

    def test_rows_of_different_lengths(self):
        wrong = [
            ((1, 2), (3,)),
            ((1,), (2, 3)),
            ((1,), (2,), (3, 4)),
            ((1,), (2, 3), (4,)),
            ((1, 2), (3, 4), (5,)),
            ((1,), ()),
            ((), (1,)),
        ]
        for rows in wrong:
            self.assertIs(is_view(("a", rows)), False, rows)

    def test_no_row_and_empty_rows(self):
        for rows in [(), ((),), ((), ())]:
            self.assertIs(is_view(("a", rows)), False, rows)

    def test_lists_in_place_of_tuples(self):
        wrong = [
            ["a", ((1,),)],
            ("a", [(1,)]),
            ("a", ([1],)),
            ("a", ((1,), [2])),
            ("a", ([1], (2,))),
            ["a", [[1]]],
        ]
        for value in wrong:
            self.assertIs(is_view(value), False, value)

    def test_wrong_rows(self):
        for rows in [None, 1, "a", "ab", (1,), ("a",), (None,), ("12", "34"), {(1,): 1}, b"a", Touchy(), (Touchy(),)]:
            self.assertIs(is_view(("a", rows)), False, type(rows))

    def test_no_pairs(self):
        wrong = [("a",), (((1,),),), ("a", ((1,),), None), ("a", ((1,),), ((1,),)), (((1,),), "a"), "ab", "a"]
        wrong += [None, 0, 5, {"a": ((1,),)}, Touchy(), *JUNK]
        for value in wrong:
            self.assertIs(is_view(value), False, type(value))


class SizesAndReadings(unittest.TestCase):
    def test_size(self):
        for width in range(1, 13):
            for height in range(1, 13):
                self.assertEqual(size(("a", rows_of(width, height))), (width, height))
        self.assertIsInstance(size(("a", ((1, 2, 3),))), tuple)

    def test_size_counts_cells_without_readings(self):
        self.assertEqual(size(("a", ((None, None, None), (None, 1, None)))), (3, 2))

    def test_readings_of_the_example(self):
        self.assertEqual(readings(("a", ((1, None), (2, 3)))), [(0, 0, 1), (0, 1, 2), (1, 1, 3)])

    def test_readings_row_by_row(self):
        view = ("a", ((7, 0, None), (None, 999, 1)))
        self.assertEqual(readings(view), [(0, 0, 7), (1, 0, 0), (1, 1, 999), (2, 1, 1)])

    def test_no_readings(self):
        self.assertEqual(readings(("a", ((None, None), (None, None)))), [])

    def test_kinds(self):
        found = readings(("a", ((1, 2),)))
        self.assertIs(type(found), list)
        self.assertTrue(all(type(triple) is tuple for triple in found))

    def test_readings_are_new_lists(self):
        view = ("a", ((1, None), (2, 3)))
        first = readings(view)
        first.clear()
        self.assertEqual(readings(view), [(0, 0, 1), (0, 1, 2), (1, 1, 3)])


class MovedLight(unittest.TestCase):
    VIEW = ("a", ((1, None), (2, 990)))

    def check_refused(self, view, light):
        kept = copy.deepcopy(view)
        with self.assertRaises(Misused) as caught:
            moved_light(view, light)
        self.assertEqual(caught.exception.why, "light")
        self.assertEqual(view, kept)

    def test_moved(self):
        self.assertEqual(moved_light(self.VIEW, 5), ("a", ((6, None), (7, 995))))
        self.assertEqual(moved_light(self.VIEW, -1), ("a", ((0, None), (1, 989))))
        self.assertEqual(moved_light(self.VIEW, 0), self.VIEW)

    def test_moved_is_a_view(self):
        self.assertIs(is_view(moved_light(self.VIEW, 3)), True)

    def test_the_view_stays(self):
        moved_light(self.VIEW, 5)
        self.assertEqual(self.VIEW, ("a", ((1, None), (2, 990))))

    def test_limits(self):
        self.assertEqual(moved_light(self.VIEW, 9), ("a", ((10, None), (11, 999))))
        self.check_refused(self.VIEW, 10)
        self.check_refused(self.VIEW, -2)
        self.assertEqual(moved_light(("a", ((0,),)), 999), ("a", ((999,),)))
        self.assertEqual(moved_light(("a", ((999,),)), -999), ("a", ((0,),)))
        self.check_refused(("a", ((0,),)), 1000)
        self.check_refused(("a", ((0,),)), -1)
        self.check_refused(("a", ((999,),)), 1)
        self.check_refused(("a", ((999,),)), -1000)
        self.assertEqual(moved_light(("a", ((0, 999),)), 0), ("a", ((0, 999),)))

    def test_any_reading_may_refuse(self):
        self.check_refused(("a", ((5, 5), (5, 999))), 1)
        self.check_refused(("a", ((999, 5), (5, 5))), 1)
        self.check_refused(("a", ((None, None), (None, 0))), -1)

    def test_without_readings(self):
        view = ("a", ((None, None),))
        for light in [-5000, -1000, -1, 0, 1, 1000, 5000]:
            self.assertEqual(moved_light(view, light), view)


if __name__ == "__main__":
    unittest.main()

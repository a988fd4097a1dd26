"""Promises 21.1 to 21.3: explanations of a ground, and surely seen cells."""

import copy
import itertools
import random
import unittest

from laidviews.errors import Misused
from laidviews.ground import gather
from laidviews.laying import lay
from laidviews.sure import best, cost, false_readings, least_cost, other, plain_ground, sure, two_grounds

from plain import plainly_sure, wrongs
from samples import album_with, ground_of, random_grounds

# Cells with one to five told values, some of them several times, and for each the best and the other one.
CELLS = [
    ([5], 5, 0),
    ([0], 0, 1),
    ([-3], -3, 0),
    ([7, 7], 7, 0),
    ([0, 0], 0, 1),
    ([9, 4], 4, 9),
    ([0, 1], 0, 1),
    ([1, 0], 0, 1),
    ([-1, -2], -2, -1),
    ([3, 8, 3], 3, 8),
    ([8, 3, 8], 8, 3),
    ([6, 2, 4], 2, 4),
    ([1, 1, 1], 1, 0),
    ([0, 0, 0], 0, 1),
    ([5, 5, 2, 2], 2, 5),
    ([5, 5, 5, 2], 5, 2),
    ([2, 9, 4, 9], 9, 2),
    ([0, 1, 2, 3], 0, 1),
    ([3, 2, 1, 0], 0, 1),
    ([0, 7, 0, 7, 7], 7, 0),
    ([8, 6, 8, 6, 1], 6, 8),
    ([4, 3, 2, 1, 0], 0, 1),
    ([-5, 999, -5, 999, -7], -5, 999),
    ([2, 2, 2, 2, 2], 2, 0),
    ([0, 0, 0, 0, 0], 0, 1),
    ([3, 1, 1, 1, 2], 1, 2),
]


class SureCase(unittest.TestCase):
    def unchanged(self, function, ground, *more):
        """Call with a ground, and check that it stays as it is."""
        before = copy.deepcopy(list(ground.items()))
        try:
            return function(ground, *more)
        finally:
            self.assertEqual(list(ground.items()), before)

    def check_refused(self, why, ground, faults, cell):
        with self.assertRaises(Misused) as caught:
            self.unchanged(two_grounds, ground, faults, cell)
        self.assertEqual(caught.exception.why, why)

    def check_two_grounds(self, ground, faults, cell):
        pair = self.unchanged(two_grounds, ground, faults, cell)
        self.assertIs(type(pair), tuple)
        first, second = pair
        self.assertEqual(list(first.items()), [(at, best(ground, at)) for at in ground])
        changed = [(at, other(ground, at) if at == cell else best(ground, at)) for at in ground]
        self.assertEqual(list(second.items()), changed)
        self.assertLessEqual(max(wrongs(ground, first), wrongs(ground, second)), faults)
        self.assertNotEqual(first[cell], second[cell])


class Costs(SureCase):
    def test_cost(self):
        ground = ground_of({(0, 0): [5, 3, 5, -7, 3], (1, 0): [9], (4, -2): [0, 0, 1]})
        for cell, value, expected in [
            ((0, 0), 5, 3),
            ((0, 0), 3, 3),
            ((0, 0), -7, 4),
            ((0, 0), 4, 5),
            ((0, 0), -10 ** 20, 5),
            ((1, 0), 9, 0),
            ((1, 0), 8, 1),
            ((4, -2), 0, 1),
            ((4, -2), 1, 2),
            ((4, -2), 2, 3),
        ]:
            self.assertEqual(self.unchanged(cost, ground, cell, value), expected)

    def test_least_cost(self):
        self.assertEqual(least_cost({}), 0)
        self.assertEqual(least_cost(ground_of({(0, 0): [5]})), 0)
        self.assertEqual(least_cost(ground_of({(0, 0): [5, 6]})), 1)
        cells = {(0, 0): [5, 5], (1, 0): [1, 2, 3], (0, 1): [4, 4, 9, 9, 9], (1, 1): [7]}
        self.assertEqual(self.unchanged(least_cost, ground_of(cells)), 4)

    def test_least_cost_of_all_integers(self):
        for ground in random_grounds(200, 1):
            plain = sum(
                min(sum(told != value for _, told in pairs) for value in range(-10, 11)) for pairs in ground.values()
            )
            self.assertEqual(least_cost(ground), plain)


class BestAndOther(SureCase):
    def test_best(self):
        for told, expected, _ in CELLS:
            self.assertEqual(self.unchanged(best, ground_of({(2, 3): told}), (2, 3)), expected, told)

    def test_other(self):
        for told, _, expected in CELLS:
            self.assertEqual(self.unchanged(other, ground_of({(2, 3): told}), (2, 3)), expected, told)

    def test_told_in_any_order(self):
        for told, first, second in CELLS:
            for turned in set(itertools.permutations(told)):
                ground = ground_of({(0, 0): turned})
                self.assertEqual((best(ground, (0, 0)), other(ground, (0, 0))), (first, second), turned)

    def test_each_cell_for_itself(self):
        ground = ground_of({(0, 0): [1, 2, 2], (1, 0): [1, 1, 2], (0, 1): [3]})
        self.assertEqual([best(ground, cell) for cell in ground], [2, 1, 3])
        self.assertEqual([other(ground, cell) for cell in ground], [1, 2, 0])

    def test_least_integer_that_is_not_told(self):
        self.assertEqual(other(ground_of({(0, 0): [0]}), (0, 0)), 1)
        self.assertEqual(other(ground_of({(0, 0): [1]}), (0, 0)), 0)
        self.assertEqual(other(ground_of({(0, 0): [999] * 30}), (0, 0)), 0)

    def test_plain_ground(self):
        ground = ground_of({(0, 0): [1, 2, 2], (5, 0): [4, 3], (-1, 2): [8]})
        found = self.unchanged(plain_ground, ground)
        self.assertIs(type(found), dict)
        self.assertEqual(list(found.items()), [((0, 0), 2), ((5, 0), 3), ((-1, 2), 8)])
        found.clear()
        self.assertEqual(plain_ground(ground), {(0, 0): 2, (5, 0): 3, (-1, 2): 8})
        self.assertEqual(plain_ground({}), {})


class Sure(SureCase):
    def check_sure(self, ground, faults, expected):
        found = self.unchanged(sure, ground, faults)
        if expected is None:
            self.assertIsNone(found)
        else:
            self.assertIs(type(found), dict)
            self.assertEqual(list(found.items()), list(expected.items()))

    def test_no_false_readings(self):
        self.check_sure(ground_of({(0, 0): [5], (1, 0): [6, 6]}), 0, {(0, 0): 5, (1, 0): 6})
        self.check_sure(ground_of({(0, 0): [5], (1, 0): [6, 7]}), 0, None)

    def test_one_false_reading(self):
        self.check_sure(ground_of({(0, 0): [5], (1, 0): [6, 6]}), 1, {(1, 0): 6})
        # The false reading is used up at (1, 0), so the single reading at (0, 0) is true.
        self.check_sure(ground_of({(0, 0): [5], (1, 0): [6, 7]}), 1, {(0, 0): 5})
        self.check_sure(ground_of({(0, 0): [5], (1, 0): [6, 7, 7]}), 1, {(0, 0): 5, (1, 0): 7})
        self.check_sure(ground_of({(0, 0): [4, 5], (1, 0): [6, 7]}), 1, None)

    def test_each_number_until_nothing_is_sure(self):
        ground = ground_of({(0, 0): [3, 3, 3, 3], (1, 0): [1, 2, 2], (2, 0): [9]})
        self.check_sure(ground, 0, None)
        self.check_sure(ground, 1, {(0, 0): 3, (1, 0): 2, (2, 0): 9})
        self.check_sure(ground, 2, {(0, 0): 3})
        self.check_sure(ground, 3, {(0, 0): 3})
        self.check_sure(ground, 4, {(0, 0): 3})
        for faults in range(5, 12):
            self.check_sure(ground, faults, {})

    def test_order_of_the_ground(self):
        ground = ground_of({(3, 0): [1], (5, 0): [2, 2], (-4, 2): [3, 3], (0, 2): [4, 4, 4], (9, 9): [5, 5]})
        self.check_sure(ground, 1, {(5, 0): 2, (-4, 2): 3, (0, 2): 4, (9, 9): 5})

    def test_empty_ground(self):
        for faults in range(3):
            self.check_sure({}, faults, {})

    def test_all_explanations(self):
        for ground in random_grounds(120, 2):
            many = sum(len(pairs) for pairs in ground.values())
            for faults in range(many + 2):
                self.check_sure(ground, faults, plainly_sure(ground, faults))
            self.assertEqual(sure(ground, many + 1), {})

    def test_gathered(self):
        views = [("a", ((1, 2, 3),)), ("b", ((5, 6),)), ("c", ((7, 9),))]
        album = album_with(views, [("a", "b", 1, 0, 3), ("a", "c", 1, 0, 5)])
        ground = gather(album, lay(album)[1], 0)
        self.check_sure(ground, 0, None)
        self.check_sure(ground, 1, {(0, 0): 1, (1, 0): 2, (2, 0): 3})
        self.check_sure(ground, 2, {(1, 0): 2})
        self.check_sure(ground, 3, {(1, 0): 2})
        self.check_sure(ground, 4, {})

    def test_new_dicts(self):
        ground = ground_of({(0, 0): [5, 5]})
        sure(ground, 1)[0, 0] = 6
        self.check_sure(ground, 1, {(0, 0): 5})

    def test_great_ground_in_short_time(self):
        source = random.Random(3)
        ground = ground_of({(x, y): [source.randint(0, 3) for _ in range(5)] for y in range(60) for x in range(60)})
        firsts = [cost(ground, cell, best(ground, cell)) for cell in ground]
        seconds = [cost(ground, cell, other(ground, cell)) for cell in ground]
        even = sum(first == second for first, second in zip(firsts, seconds))
        self.assertEqual(len(sure(ground, least_cost(ground))), len(ground) - even)


class TwoGrounds(SureCase):
    def test_two(self):
        ground = ground_of({(0, 0): [5], (1, 0): [6, 6, 7]})
        self.assertEqual(two_grounds(ground, 2, (0, 0)), ({(0, 0): 5, (1, 0): 6}, {(0, 0): 0, (1, 0): 6}))
        self.assertEqual(two_grounds(ground, 2, (1, 0)), ({(0, 0): 5, (1, 0): 6}, {(0, 0): 5, (1, 0): 7}))
        self.check_two_grounds(ground, 2, (0, 0))
        self.check_two_grounds(ground, 9, (1, 0))

    def test_none(self):
        ground = ground_of({(0, 0): [5], (1, 0): [6, 7]})
        # Without an explanation nothing is surely seen, but also where all readings agree.
        self.check_refused("none", ground, 0, (0, 0))
        self.check_refused("none", ground, 0, (1, 0))

    def test_sure(self):
        ground = ground_of({(0, 0): [5], (1, 0): [6, 7]})
        self.check_refused("sure", ground, 1, (0, 0))
        self.check_two_grounds(ground, 1, (1, 0))
        self.check_two_grounds(ground, 2, (0, 0))

    def test_all_explanations(self):
        for ground in random_grounds(120, 4):
            for faults in range(sum(len(pairs) for pairs in ground.values()) + 2):
                seen = plainly_sure(ground, faults)
                for cell in ground:
                    if seen is None:
                        self.check_refused("none", ground, faults, cell)
                    elif cell in seen:
                        self.check_refused("sure", ground, faults, cell)
                    else:
                        self.check_two_grounds(ground, faults, cell)

    def test_new_dicts(self):
        ground = ground_of({(0, 0): [5], (1, 0): [6]})
        first, second = two_grounds(ground, 1, (0, 0))
        first.clear()
        self.assertEqual(second, {(0, 0): 0, (1, 0): 6})
        self.check_two_grounds(ground, 1, (0, 0))


class FalseReadings(SureCase):
    def check_false(self, ground, values, expected):
        before = dict(values)
        found = self.unchanged(false_readings, ground, values)
        self.assertIs(type(found), list)
        self.assertEqual(found, expected)
        self.assertEqual(values, before)

    def test_in_the_order_of_the_ground(self):
        ground = ground_of({(4, 0): [1, 2, 1, 3], (-2, 1): [5], (0, 1): [7, 8]})
        self.check_false(ground, plain_ground(ground), [((4, 0), "b"), ((4, 0), "d"), ((0, 1), "b")])
        # The order of the values does not matter.
        values = {(0, 1): 8, (-2, 1): 0, (4, 0): 2}
        expected = [((4, 0), "a"), ((4, 0), "c"), ((4, 0), "d"), ((-2, 1), "a"), ((0, 1), "a")]
        self.check_false(ground, values, expected)

    def test_names_of_the_ground(self):
        ground = {(0, 0): (("z9", 1), ("b", 2), ("m", 1))}
        self.check_false(ground, {(0, 0): 2}, [((0, 0), "z9"), ((0, 0), "m")])

    def test_nothing_false(self):
        ground = ground_of({(4, 0): [1, 1], (-2, 1): [5]})
        self.check_false(ground, {(4, 0): 1, (-2, 1): 5}, [])
        self.check_false({}, {}, [])

    def test_as_many_as_the_least_cost(self):
        for ground in random_grounds(100, 5):
            self.assertEqual(len(false_readings(ground, plain_ground(ground))), least_cost(ground))


if __name__ == "__main__":
    unittest.main()

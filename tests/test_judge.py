"""Promises 40.1 to 40.3: the judge of layings, of rings and of cells."""

import copy
import itertools
import random
import unittest

from laidviews.album import Album, show_album
from laidviews.judge import cell_paper, judges, judges_cell
from laidviews.laying import groups, lay
from laidviews.sure import plain_ground, sure, two_grounds

from plain import UNTOLD, plainly_sure, wrongs
from samples import JUNK, Touchy, ground_of, linked, random_grounds, small_albums

# Two groups: a and c, and b and d; the two links between b and d are kept alike.
LINKS = [("c", "a", 1, 2, 3), ("b", "d", -4, 5, 6), ("d", "b", 4, -5, -6)]
LAYING = {"a": (0, 0, 0, 0), "b": (1, 0, 0, 0), "c": (0, -1, -2, -3), "d": (1, -4, 5, 6)}

# A ring of three links, whose sum is (0, 0, 1), a link beside it, and one that no other touches.
ROUND = [("a", "b", 1, 0, 0), ("b", "c", 0, 1, 1), ("a", "c", 1, 1, 0), ("a", "b", 1, 0, 0), ("d", "e", 5, 5, 5)]
RING = ((0, True), (1, True), (2, False))


def two_groups():
    return linked("a b c d", LINKS)


def barred():
    return linked("a b c d e", ROUND)


def plain_sum(links, steps):
    return tuple(sum(links[number][2 + at] * (1 if forward else -1) for number, forward in steps) for at in range(3))


def plain_is_ring(links, steps):
    """Whether steps with right numbers, at least one, follow one another all round."""
    ends = [links[number][:2] if forward else links[number][1::-1] for number, forward in steps]
    return all(ends[at][1] == ends[(at + 1) % len(ends)][0] for at in range(len(ends)))


class JudgeCase(unittest.TestCase):
    def check_judged(self, album, value, expected):
        before = (show_album(album), repr(value))
        self.assertIs(judges(album, value), expected, value)
        self.assertEqual((show_album(album), repr(value)), before)

    def check_laying(self, laying, expected):
        self.check_judged(two_groups(), ("laid", laying), expected)

    def check_ring(self, ring, expected):
        self.check_judged(barred(), ("ring", ring), expected)


class Layings(JudgeCase):
    def test_laying(self):
        self.assertEqual(lay(two_groups()), ("laid", LAYING))
        self.check_laying(LAYING, True)

    def test_keys_in_any_order(self):
        for names in itertools.permutations("abcd"):
            self.check_laying({name: LAYING[name] for name in names}, True)

    def test_what_lay_returns(self):
        for album in small_albums(200, 1):
            self.check_judged(album, lay(album), True)

    def test_empty_album(self):
        self.check_judged(Album(), ("laid", {}), True)
        self.check_judged(Album(), ("laid", {"a": (0, 0, 0, 0)}), False)
        self.check_judged(Album(), ("ring", ()), False)

    def test_numbers_changed(self):
        for name in LAYING:
            for at in range(4):
                for change in (-1, 1, 5):
                    place = list(LAYING[name])
                    place[at] += change
                    self.check_laying({**LAYING, name: tuple(place)}, False)

    def test_a_group_moved(self):
        for move in [(1, 0, 0), (0, -1, 0), (0, 0, 7)]:
            for group in ("ac", "bd"):
                moved = dict(LAYING)
                for name in group:
                    moved[name] = (LAYING[name][0], *[one + two for one, two in zip(LAYING[name][1:], move)])
                self.check_laying(moved, False)

    def test_a_group_with_another_number(self):
        for group, number in [("ac", 2), ("bd", 0), ("bd", 3), ("bd", 2), ("ac", -4)]:
            renamed = {name: (number, *LAYING[name][1:]) for name in group}
            self.check_laying({**LAYING, **renamed}, False)

    def test_names_missing_or_too_many(self):
        self.check_laying({}, False)
        for name in LAYING:
            self.check_laying({other: LAYING[other] for other in LAYING if other != name}, False)
        self.check_laying({**LAYING, "e": (4, 0, 0, 0)}, False)
        self.check_laying({**LAYING, "": (0, 0, 0, 0)}, False)
        without = {name: LAYING[name] for name in "abc"}
        for name in ("e", "D", b"d", None, 3, ("d",)):
            self.check_laying({**without, name: LAYING["d"]}, False)

    def test_places_of_other_kinds(self):
        wrong = [[0, 0, 0, 0], (0, 0, 0), (0, 0, 0, 0, 0), (), None, 0, "0000", {0: 0, 1: 0, 2: 0, 3: 0}, *JUNK]
        for place in wrong:
            self.check_laying({**LAYING, "a": place}, False)
        for at in range(4):
            for number in (False, 0.0, "0", None, 0j, Touchy()):
                place = [0, 0, 0, 0]
                place[at] = number
                self.check_laying({**LAYING, "a": tuple(place)}, False)
        # At 1 and 0 as True and False, where a comparison alone would take them.
        self.check_laying({**LAYING, "b": (True, 0, 0, 0)}, False)
        self.check_laying({**LAYING, "b": (1.0, 0, 0, 0)}, False)
        self.check_laying({**LAYING, "d": (1, -4, 5, 6.0)}, False)

    def test_layings_of_other_kinds(self):
        for laying in [list(LAYING.items()), tuple(LAYING.items()), list(LAYING), "abcd", Touchy(), *JUNK]:
            self.check_laying(laying, False)

    def test_links_that_bar(self):
        # Whatever is laid, one of the links is not kept.
        album = linked("a b", [("a", "b", 0, 0, 0), ("a", "b", 0, 0, 1)])
        for light in (-1, 0, 1, 2):
            self.check_judged(album, ("laid", {"a": (0, 0, 0, 0), "b": (0, 0, 0, light)}), False)

    def test_only_one_laying_is_accepted(self):
        for album in small_albums(60, 2):
            names = album.names()[:3]
            album = linked(" ".join(names), [link for link in album.links() if set(link[:2]) <= set(names)])
            accepted = []
            places = list(itertools.product(range(len(names)), (-1, 0, 1), (0,), (-1, 0, 1)))
            for chosen in itertools.product(places, repeat=len(names) - 1):
                laying = dict(zip(names, ((0, 0, 0, 0), *chosen)))
                if judges(album, ("laid", laying)):
                    accepted.append(("laid", laying))
            kind, told = lay(album)
            near = kind == "laid" and all(place in places for place in told.values())
            self.assertEqual(accepted, [(kind, told)] if near else [])


class Rings(JudgeCase):
    def test_ring(self):
        self.check_ring(RING, True)
        self.assertEqual(lay(barred()), ("ring", RING))

    def test_begun_elsewhere_and_turned_round(self):
        turned = tuple((number, not forward) for number, forward in reversed(RING))
        for ring in (RING, turned):
            for at in range(3):
                self.check_ring(ring[at:] + ring[:at], True)

    def test_doubled(self):
        self.check_ring(RING + RING, True)
        self.check_ring(RING * 5, True)
        turned = tuple((number, not forward) for number, forward in reversed(RING))
        # Once round and back again: the sum is (0, 0, 0).
        self.check_ring(RING + turned, False)
        self.check_ring(RING + RING + turned, True)

    def test_detours(self):
        self.check_ring(RING + ((0, True), (3, False)), True)
        self.check_ring(((0, True), (3, False)) + RING, True)
        self.check_ring(((3, True), *RING[1:]), True)

    def test_the_sum_zero(self):
        self.check_ring(((0, True), (0, False)), False)
        self.check_ring(((0, True), (3, False)), False)
        self.check_ring(((4, True), (4, False)), False)
        album = linked("a b", [("a", "b", 0, 0, 0), ("b", "a", 0, 0, 0)])
        self.check_judged(album, ("ring", ((0, True), (1, True))), False)

    def test_each_part_of_the_sum(self):
        for more in [(1, 0, 0), (0, 1, 0), (0, 0, 1), (-1, 0, 0), (1, -1, 0)]:
            album = linked("a b", [("a", "b", 0, 0, 0), ("b", "a", *more)])
            self.check_judged(album, ("ring", ((0, True), (1, True))), True)

    def test_a_step_left_out(self):
        for at in range(3):
            self.check_ring(RING[:at] + RING[at + 1:], False)
            self.check_ring((RING[at],), False)

    def test_steps_in_another_order_or_direction(self):
        self.check_ring((RING[1], RING[0], RING[2]), False)
        for at in range(3):
            number, forward = RING[at]
            self.check_ring((*RING[:at], (number, not forward), *RING[at + 1:]), False)

    def test_the_last_step_ends_elsewhere(self):
        self.check_ring(((0, True), (1, True)), False)
        self.check_ring(((4, True),), False)
        self.check_ring((*RING, (0, True)), False)
        self.check_ring((*RING, (4, True), (4, False)), False)

    def test_numbers_that_are_not_there(self):
        for number in (-1, -5, 5, 60, 10 ** 20, None, "0", 0.0, 1.5, True, False, Touchy(), *JUNK):
            self.check_ring(((number, True), *RING[1:]), False)
        # As the index of a list, -3 would be 2, and True would be 1.
        self.check_ring(((0, True), (1, True), (-3, False)), False)
        self.check_ring(((0, True), (True, True), (2, False)), False)
        self.check_ring(((0, True), (1.0, True), (2, False)), False)
        album = linked("a b", [("a", "b", 0, 0, 0), ("a", "b", 1, 0, 0)])
        self.check_judged(album, ("ring", ((0, True), (1, False))), True)
        self.check_judged(album, ("ring", ((0, True), (-1, False))), False)
        self.check_judged(album, ("ring", ((-2, True), (1, False))), False)
        self.check_judged(album, ("ring", ((0, True), (2, False))), False)
        self.check_judged(linked("a b", []), ("ring", ((0, True), (0, False))), False)

    def test_directions_of_other_kinds(self):
        self.check_ring(((0, 1), (1, True), (2, False)), False)
        self.check_ring(((0, True), (1, True), (2, 0)), False)
        for forward in (None, "True", 1.0, [], Touchy(), 2, -1):
            self.check_ring(((0, forward), (1, True), (2, False)), False)
            self.check_ring(((0, True), (1, True), (2, forward)), False)

    def test_steps_of_other_kinds(self):
        for step in [[0, True], (0,), (0, True, True), (), None, 0, "0T", Touchy(), {0: True, 1: True}, *JUNK]:
            self.check_ring((step, *RING[1:]), False)

    def test_rings_of_other_kinds(self):
        for ring in [(), list(RING), [], dict(RING), None, RING[0], "ring", Touchy(), *JUNK]:
            self.check_ring(ring, False)

    def test_all_short_rings(self):
        for album in small_albums(40, 3):
            links = album.links()
            steps = [(number, forward) for number in range(min(4, len(links))) for forward in (True, False)]
            for many in range(1, 5):
                for ring in itertools.product(steps, repeat=many):
                    expected = plain_is_ring(links, ring) and plain_sum(links, ring) != (0, 0, 0)
                    self.assertIs(judges(album, ("ring", ring)), expected)

    def test_no_ring_bars_an_album_that_is_laid(self):
        source = random.Random(4)
        for album in small_albums(60, 5):
            links = album.links()
            if links and lay(album)[0] == "laid":
                for _ in range(50):
                    ring = tuple(
                        (source.randrange(len(links)), source.random() < 0.5) for _ in range(source.randint(1, 5))
                    )
                    self.check_judged(album, ("ring", ring), False)


class OtherPapers(JudgeCase):
    def test_other_words(self):
        for word in ("ring", "Laid", "laid ", "", "sure", b"laid", None, 0, True, Touchy(), ("laid",), ["laid"]):
            self.check_judged(two_groups(), (word, LAYING), False)
        for word in ("laid", "rings", "", None, Touchy()):
            self.check_judged(barred(), (word, RING), False)

    def test_other_kinds(self):
        for value in [
            ["laid", LAYING],
            ("laid",),
            ("laid", LAYING, None),
            ("laid", LAYING, LAYING),
            (LAYING, "laid"),
            LAYING,
            {"laid": LAYING},
            "laid",
            None,
            Touchy(),
            (Touchy(), LAYING),
            (Touchy(), Touchy()),
            *JUNK,
        ]:
            self.check_judged(two_groups(), value, False)
        for value in [["ring", RING], ("ring",), ("ring", RING, RING), RING, "ring", {"ring": RING}]:
            self.check_judged(barred(), value, False)


class CellCase(unittest.TestCase):
    GROUND = ground_of({(0, 0): [5], (1, 0): [6, 6, 7], (0, 1): [1, 1]})

    def check_judged(self, ground, faults, value, expected):
        before = copy.deepcopy(list(ground.items()))
        told = repr(value)
        self.assertIs(judges_cell(ground, faults, value), expected, (ground, faults, value))
        self.assertEqual(list(ground.items()), before)
        self.assertEqual(repr(value), told)


class SurePapers(CellCase):
    def test_sure(self):
        for faults, sure_cells in [(0, {}), (1, {(0, 0): 5, (1, 0): 6, (0, 1): 1}), (2, {(0, 1): 1}), (3, {}), (9, {})]:
            for cell in self.GROUND:
                for value in (0, 1, 5, 6, 7):
                    accepted = sure_cells.get(cell) == value
                    self.check_judged(self.GROUND, faults, ("sure", cell, value), accepted)

    def test_no_such_cell(self):
        for cell in [(1, 1), (-1, 0), (0, 2), (5, 5)]:
            for value in (0, 5, None):
                self.check_judged(self.GROUND, 1, ("sure", cell, value), False)
        self.check_judged({}, 0, ("sure", (0, 0), 0), False)

    def test_other_cells_and_values(self):
        for cell in [[0, 0], (0,), (0, 0, 0), (False, 0), (0, False), (0.0, 0), (0, "0"), None, 0, Touchy(), *JUNK]:
            self.check_judged(self.GROUND, 1, ("sure", cell, 5), False)
        for value in (5.0, "5", None, (5,), [5], Touchy(), 5 + 0j, True):
            self.check_judged(self.GROUND, 1, ("sure", (0, 0), value), False)
        self.check_judged(self.GROUND, 1, ("sure", (0, True), 1), False)
        self.check_judged(self.GROUND, 1, ("sure", (0, 1), True), False)
        self.check_judged(self.GROUND, 1, ("sure", (0, 1), 1.0), False)

    def test_all_explanations(self):
        for ground in random_grounds(80, 6):
            for faults in range(sum(len(pairs) for pairs in ground.values()) + 2):
                found = plainly_sure(ground, faults)
                self.check_judged(ground, faults, ("none",), found is None)
                for cell in ground:
                    for value in range(-1, 6):
                        self.check_judged(ground, faults, ("sure", cell, value), (found or {}).get(cell) == value)


class OpenPapers(CellCase):
    def check_open(self, faults, cell, first, second, expected):
        self.check_judged(self.GROUND, faults, ("open", cell, first, second), expected)
        self.check_judged(self.GROUND, faults, ("open", cell, second, first), expected)

    def test_open(self):
        first = {(0, 0): 5, (1, 0): 6, (0, 1): 1}
        second = {(0, 0): -77, (1, 0): 6, (0, 1): 1}
        self.check_open(2, (0, 0), first, second, True)
        self.check_open(9, (0, 0), first, second, True)
        # Only the second one has too many false readings.
        self.check_open(1, (0, 0), first, second, False)
        self.check_open(0, (0, 0), first, second, False)

    def test_they_differ_at_the_cell(self):
        first = {(0, 0): 5, (1, 0): 6, (0, 1): 1}
        second = {(0, 0): 8, (1, 0): 7, (0, 1): 1}
        self.check_open(9, (0, 0), first, second, True)
        self.check_open(9, (1, 0), first, second, True)
        self.check_open(9, (0, 1), first, second, False)
        for cell in self.GROUND:
            self.check_open(9, cell, first, dict(first), False)

    def test_keys_in_any_order(self):
        for cells in itertools.permutations(self.GROUND):
            first = {cell: 5 for cell in cells}
            self.check_open(9, (0, 0), first, {cell: 6 for cell in cells}, True)

    def test_other_keys(self):
        first = {(0, 0): 5, (1, 0): 6, (0, 1): 1}
        for second in [
            {},
            {(0, 0): 8, (1, 0): 6},
            {(0, 0): 8, (1, 0): 6, (0, 1): 1, (1, 1): 1},
            {(0, 0): 8, (1, 0): 6, (1, 1): 1},
            {(0, 0): 8, (True, 0): 6, (0, 1): 1},
            {(0, 0): 8, (1, 0): 6, (False, 1): 1},
            {(0, 0): 8, (1.0, 0): 6, (0, 1): 1},
            {(0, 0): 8, (1, 0): 6, "01": 1},
            {(0, 0): 8, (1, 0): 6, None: 1},
        ]:
            self.check_open(9, (0, 0), first, second, False)

    def test_other_values(self):
        first = {(0, 0): 5, (1, 0): 6, (0, 1): 1}
        for value in (True, False, 6.0, "6", None, (6,), Touchy(), *[junk for junk in JUNK if type(junk) is not int]):
            self.check_open(9, (0, 0), first, {(0, 0): 8, (1, 0): value, (0, 1): 1}, False)
            self.check_open(9, (0, 0), first, {(0, 0): value, (1, 0): 6, (0, 1): 1}, False)
        self.check_open(9, (0, 0), first, {(0, 0): 8, (1, 0): 6, (0, 1): True}, False)

    def test_other_kinds_of_grounds(self):
        first = {(0, 0): 5, (1, 0): 6, (0, 1): 1}
        for second in [list(first.items()), tuple(first), None, 5, "ground", Touchy(), *JUNK]:
            self.check_open(9, (0, 0), first, second, False)

    def test_other_cells(self):
        first = {(0, 0): 5, (1, 0): 6, (0, 1): 1}
        second = {cell: 9 for cell in self.GROUND}
        for cell in [(1, 1), (5, 5), [0, 0], (0,), (0, 0, 0), (False, 0), (0.0, 0), None, Touchy(), *JUNK]:
            self.check_open(9, cell, first, second, False)

    def test_all_explanations(self):
        for ground in random_grounds(60, 7):
            told = [sorted({value for _, value in pairs}) + list(UNTOLD) for pairs in ground.values()]
            grounds = [dict(zip(ground, integers)) for integers in itertools.product(*told)][:12]
            for faults in range(4):
                for first, second in itertools.product(grounds, repeat=2):
                    explained = wrongs(ground, first) <= faults and wrongs(ground, second) <= faults
                    for cell in ground:
                        paper = ("open", cell, first, second)
                        self.check_judged(ground, faults, paper, explained and first[cell] != second[cell])


class NonePapers(CellCase):
    def test_none(self):
        self.check_judged(self.GROUND, 0, ("none",), True)
        for faults in (1, 2, 3, 100):
            self.check_judged(self.GROUND, faults, ("none",), False)

    def test_empty_ground(self):
        self.check_judged({}, 0, ("none",), False)

    def test_at_the_edge(self):
        ground = ground_of({(0, 0): [1, 2, 3, 4], (1, 0): [5, 5, 6]})
        self.check_judged(ground, 3, ("none",), True)
        self.check_judged(ground, 4, ("none",), False)


class OtherCellPapers(CellCase):
    def test_other_kinds(self):
        plain = plain_ground(self.GROUND)
        for value in [
            None,
            (),
            "none",
            "sure",
            ["none"],
            ("None",),
            ("none", None),
            ("none", (0, 0)),
            (("none",),),
            (b"none",),
            ("sure",),
            ("sure", (0, 0)),
            ["sure", (0, 1), 1],
            ("sure", (0, 1), 1, 1),
            ("open", (0, 1), 1),
            (1, (0, 1), 1),
            (Touchy(), (0, 1), 1),
            ("open",),
            ("open", (0, 0), plain),
            ("open", (0, 0), (plain, {**plain, (0, 0): 0})),
            ("open", (0, 0), plain, {**plain, (0, 0): 0}, None),
            ["open", (0, 0), plain, {**plain, (0, 0): 0}],
            ("sure", (0, 0), plain, {**plain, (0, 0): 0}),
            (Touchy(),),
            Touchy(),
            *JUNK,
        ]:
            for faults in (0, 1, 2):
                self.check_judged(self.GROUND, faults, value, False)


class CellPapers(CellCase):
    def check_paper(self, ground, faults, cell, expected):
        before = copy.deepcopy(list(ground.items()))
        paper = cell_paper(ground, faults, cell)
        self.assertEqual((type(paper), paper), (tuple, expected))
        self.assertEqual(list(ground.items()), before)
        self.check_judged(ground, faults, paper, True)

    def test_each_kind(self):
        self.check_paper(self.GROUND, 0, (0, 0), ("none",))
        self.check_paper(self.GROUND, 0, (0, 1), ("none",))
        self.check_paper(self.GROUND, 1, (1, 0), ("sure", (1, 0), 6))
        self.check_paper(self.GROUND, 2, (0, 1), ("sure", (0, 1), 1))
        first = {(0, 0): 5, (1, 0): 6, (0, 1): 1}
        self.check_paper(self.GROUND, 2, (1, 0), ("open", (1, 0), first, {**first, (1, 0): 7}))
        self.check_paper(self.GROUND, 2, (0, 0), ("open", (0, 0), first, {**first, (0, 0): 0}))
        self.check_paper(self.GROUND, 3, (0, 1), ("open", (0, 1), first, {**first, (0, 1): 0}))

    def test_all_explanations(self):
        for ground in random_grounds(100, 8):
            for faults in range(sum(len(pairs) for pairs in ground.values()) + 2):
                found = plainly_sure(ground, faults)
                for cell in ground:
                    if found is None:
                        expected = ("none",)
                    elif cell in found:
                        expected = ("sure", cell, found[cell])
                    else:
                        expected = ("open", cell, *two_grounds(ground, faults, cell))
                    self.check_paper(ground, faults, cell, expected)

    def test_only_one_kind_of_paper_is_accepted(self):
        for ground in random_grounds(60, 9):
            for faults in range(5):
                found = sure(ground, faults)
                self.check_judged(ground, faults, ("none",), found is None)
                for cell in ground:
                    accepted = found is not None and cell in found
                    self.check_judged(ground, faults, ("sure", cell, plain_ground(ground)[cell]), accepted)


class Groups(JudgeCase):
    def test_each_group_begins_at_its_first_view(self):
        for album in small_albums(100, 10):
            kind, told = lay(album)
            if kind == "laid":
                for names in groups(album):
                    moved = {**told, names[-1]: (told[names[-1]][0], 9, 9, 9)}
                    self.check_judged(album, (kind, moved), False)


if __name__ == "__main__":
    unittest.main()

"""Promises 10.1 to 10.5: groups, layings and rings."""

import collections
import unittest

from laidviews.album import Album, show_album
from laidviews.laying import groups, keeps, lay, lay_group, ring_sum

from samples import album_with, linked, small_albums

ALBUMS = list(small_albums(300, 5))


def linked_names(links, name):
    """The names that walks along links lead to, found by trying every link again and again."""
    reached = {name}
    for _ in links:
        for one, two, *_ in links:
            if one in reached or two in reached:
                reached |= {one, two}
    return reached


def ends(links, step):
    number, forward = step
    one, two = links[number][:2]
    return (one, two) if forward else (two, one)


def is_ring(links, ring):
    joints = [ends(links, step) for step in ring]
    return bool(ring) and all(joints[at - 1][1] == joints[at][0] for at in range(len(joints)))


def plain_sum(links, ring):
    signs = [1 if forward else -1 for _, forward in ring]
    return tuple(sum(sign * links[number][at] for sign, (number, _) in zip(signs, ring)) for at in (2, 3, 4))


def walks(links, most):
    """All walks along links of at most so many steps, the shorter ones first."""
    steps = [(number, forward) for number in range(len(links)) for forward in (True, False)]
    level = [(step,) for step in steps]
    for _ in range(most):
        yield from level
        level = [walk + (step,) for walk in level for step in steps if ends(links, walk[-1])[1] == ends(links, step)[0]]


def barring_lengths(album, most):
    """The numbers of steps of all rings that bar, of at most so many steps."""
    links = album.links()
    return {len(walk) for walk in walks(links, most) if is_ring(links, walk) and any(plain_sum(links, walk))}


def queued_ways(album, start):
    """The ways of point 10.5, with a queue."""
    ways = {start: []}
    queue = collections.deque([start])
    while queue:
        name = queue.popleft()
        for number, link in enumerate(album.links()):
            if name not in link[:2]:
                continue
            other = link[1] if link[0] == name else link[0]
            if other not in ways:
                ways[other] = ways[name] + [(number, link[0] == name)]
                queue.append(other)
    return ways


def told_ring(album, names):
    """The told ring of point 10.5, as the least of all candidates, or None."""
    links = album.links()
    found = []
    for name in names:
        ways = queued_ways(album, name)
        least = min(album.index(other) for other in ways)
        for number, (one, two, *_) in enumerate(links):
            if one in ways:
                back = [(other, not forward) for other, forward in ways[two][::-1]]
                ring = tuple(ways[one] + [(number, True)] + back)
                if any(plain_sum(links, ring)):
                    found.append((len(ring), least, album.index(name), number, ring))
    return min(found)[-1] if found else None


class Groups(unittest.TestCase):
    def check_groups(self, album, expected):
        before = show_album(album)
        found = groups(album)
        self.assertEqual(found, expected)
        self.assertEqual({type(value) for value in [found, *found]}, {list})
        self.assertEqual(show_album(album), before)

    def test_without_views(self):
        self.check_groups(Album(), [])

    def test_without_links(self):
        self.check_groups(linked("c a b", []), [["c"], ["a"], ["b"]])

    def test_walks_in_either_direction(self):
        for ab in [("a", "b", 0, 0, 0), ("b", "a", 0, 0, 0)]:
            for bc in [("b", "c", 0, 0, 0), ("c", "b", 0, 0, 0)]:
                self.check_groups(linked("a b c", [ab, bc]), [["a", "b", "c"]])
                self.check_groups(linked("a b c", [bc, ab]), [["a", "b", "c"]])
                self.check_groups(linked("c d b a", [bc, ab]), [["c", "b", "a"], ["d"]])

    def test_order(self):
        links = [("f", "c", 0, 0, 0), ("e", "f", 0, 0, 0), ("a", "d", 0, 0, 0)]
        self.check_groups(linked("e d c b a f", links), [["e", "c", "f"], ["d", "a"], ["b"]])

    def test_several_links_between_two_views(self):
        links = [("a", "c", 0, 0, 0), ("a", "c", 0, 0, 0), ("c", "a", 5, 5, 5), ("a", "c", 1, 1, 1)]
        self.check_groups(linked("a b c", links), [["a", "c"], ["b"]])

    def test_behind_changes(self):
        album = linked("a b c d", [("a", "b", 0, 0, 0), ("b", "c", 0, 0, 0), ("d", "c", 0, 0, 0)])
        self.check_groups(album, [["a", "b", "c", "d"]])
        album.remove_link(1)
        self.check_groups(album, [["a", "b"], ["c", "d"]])
        album.remove_view("a")
        self.check_groups(album, [["b"], ["c", "d"]])

    def test_new_lists(self):
        album = linked("a b", [])
        found = groups(album)
        found[0].append("x")
        found.clear()
        self.check_groups(album, [["a"], ["b"]])

    def test_small_albums(self):
        for album in ALBUMS:
            expected = []
            for name in album.names():
                group = sorted(linked_names(album.links(), name), key=album.index)
                if group not in expected:
                    expected.append(group)
            self.check_groups(album, expected)


class Layings(unittest.TestCase):
    def check_laid(self, album, expected):
        before = show_album(album)
        answer = lay(album)
        self.assertEqual(answer, ("laid", expected))
        self.assertEqual(list(answer[1]), album.names())
        self.assertEqual((type(answer), type(answer[1])), (tuple, dict))
        for place in answer[1].values():
            self.assertEqual([type(place), *map(type, place)], [tuple, int, int, int, int])
        self.assertEqual([link for link in album.links() if keeps(answer[1], link)], album.links())
        self.assertEqual(show_album(album), before)

    def test_without_views(self):
        self.check_laid(Album(), {})

    def test_without_links(self):
        self.check_laid(linked("b a c", []), {"b": (0, 0, 0, 0), "a": (1, 0, 0, 0), "c": (2, 0, 0, 0)})

    def test_one_link(self):
        self.check_laid(linked("a b", [("a", "b", 2, -3, 40)]), {"a": (0, 0, 0, 0), "b": (0, 2, -3, 40)})
        self.check_laid(linked("b a", [("a", "b", 2, -3, 40)]), {"b": (0, 0, 0, 0), "a": (0, -2, 3, -40)})

    def test_places_add_up(self):
        links = [("c", "b", 10, 20, 30), ("a", "b", 1, 2, 3), ("c", "d", -99, 99, 999), ("d", "e", -99, 99, 999)]
        places = {"a": (0, 0, 0, 0), "b": (0, 1, 2, 3), "c": (0, -9, -18, -27)}
        places |= {"d": (0, -108, 81, 972), "e": (0, -207, 180, 1971)}
        self.check_laid(linked("a b c d e", links), places)

    def test_groups_between_each_other(self):
        links = [("d", "b", 1, 1, 1), ("c", "a", 2, 2, 2)]
        places = {"d": (0, 0, 0, 0), "c": (1, 0, 0, 0), "b": (0, 1, 1, 1), "a": (1, 2, 2, 2)}
        self.check_laid(linked("d c b a", links), places)

    def test_several_links_that_agree(self):
        links = [("a", "b", 1, 2, 3), ("a", "b", 1, 2, 3), ("b", "a", -1, -2, -3)]
        self.check_laid(linked("a b", links), {"a": (0, 0, 0, 0), "b": (0, 1, 2, 3)})

    def test_ring_that_does_not_bar(self):
        links = [("a", "b", 1, 0, 5), ("b", "c", 0, 1, 5), ("a", "c", 1, 1, 10)]
        self.check_laid(linked("a b c", links), {"a": (0, 0, 0, 0), "b": (0, 1, 0, 5), "c": (0, 1, 1, 10)})

    def test_longest_chain(self):
        names = [f"n{number}" for number in range(30)]
        links = [(names[at], names[at + 1], 99, -99, 999) for at in range(29)]
        album = linked(" ".join(names), links + links)
        self.check_laid(album, {name: (0, 99 * at, -99 * at, 999 * at) for at, name in enumerate(names)})

    def test_sizes_and_readings_do_not_matter(self):
        views = [("a", ((None,),)), ("b", ((1, 2), (3, 4)))]
        self.check_laid(album_with(views, [("a", "b", 50, 0, 0)]), {"a": (0, 0, 0, 0), "b": (0, 50, 0, 0)})

    def test_new_dicts(self):
        album = linked("a b", [("a", "b", 1, 2, 3)])
        first = lay(album)[1]
        lay_group(album, ["a", "b"])[1].clear()
        lay(album)[1].clear()
        album.remove_view("b")
        self.assertEqual(first, {"a": (0, 0, 0, 0), "b": (0, 1, 2, 3)})

    def test_small_albums_that_are_laid(self):
        laid = [album for album in ALBUMS if lay(album)[0] == "laid"]
        self.assertGreater(len(laid), 50)
        self.assertGreater(len(ALBUMS) - len(laid), 50)
        for album in laid:
            laying = lay(album)[1]
            self.check_laid(album, laying)
            for names in groups(album):
                number = album.index(names[0])
                self.assertEqual({laying[name][0] for name in names}, {number})
                self.assertEqual(laying[names[0]], (number, 0, 0, 0))


class LaidGroups(unittest.TestCase):
    def test_views_of_the_group_only(self):
        links = [("d", "b", 1, 1, 1), ("c", "a", 2, 2, 2)]
        album = linked("e d c b a", links)
        self.assertEqual(lay_group(album, ["e"]), ("laid", {"e": (0, 0, 0, 0)}))
        self.assertEqual(lay_group(album, ["d", "b"]), ("laid", {"d": (1, 0, 0, 0), "b": (1, 1, 1, 1)}))
        self.assertEqual(lay_group(album, ["c", "a"]), ("laid", {"c": (2, 0, 0, 0), "a": (2, 2, 2, 2)}))

    def test_order_of_the_album(self):
        album = linked("e d c b", [("d", "b", 1, 1, 1), ("c", "b", 0, 0, 0)])
        names = ["b", "c", "d"]
        laying = lay_group(album, names)[1]
        self.assertEqual(list(laying.items()), [("d", (1, 0, 0, 0)), ("c", (1, 1, 1, 1)), ("b", (1, 1, 1, 1))])
        self.assertEqual(names, ["b", "c", "d"])

    def test_ring_of_its_own_group(self):
        links = [("c", "d", 0, 0, 0), ("d", "e", 0, 0, 0), ("e", "c", 0, 0, 1), ("a", "b", 1, 0, 0), ("b", "a", 1, 0, 0)]
        album = linked("a b c d e f", links)
        self.assertEqual(lay_group(album, ["a", "b"]), ("ring", ((3, True), (4, True))))
        self.assertEqual(lay_group(album, ["c", "d", "e"]), ("ring", ((0, True), (1, True), (2, True))))
        self.assertEqual(lay_group(album, ["f"]), ("laid", {"f": (5, 0, 0, 0)}))
        self.assertEqual(lay(album), ("ring", ((3, True), (4, True))))

    def test_small_albums(self):
        for album in ALBUMS:
            for names in groups(album):
                kind, told = lay_group(album, names)
                self.assertEqual(told if kind == "ring" else None, told_ring(album, names))
                if kind == "laid":
                    own = [link for link in album.links() if link[0] in names]
                    self.assertEqual(list(told), names)
                    self.assertEqual([link for link in own if keeps(told, link)], own)
                    self.assertEqual(told[names[0]], (album.index(names[0]), 0, 0, 0))


class Kept(unittest.TestCase):
    LAYING = {"a": (0, 0, 0, 0), "b": (0, 4, -5, 60), "c": (2, 4, -5, 60), "d": (0, 4, -5, 60)}

    def test_kept(self):
        for link in [("a", "b", 4, -5, 60), ("b", "a", -4, 5, -60), ("b", "d", 0, 0, 0), ("d", "b", 0, 0, 0)]:
            self.assertIs(keeps(self.LAYING, link), True, link)

    def test_moved_by_one(self):
        wrong = [(3, -5, 60), (5, -5, 60), (4, -6, 60), (4, -4, 60), (4, -5, 59), (4, -5, 61), (-4, 5, -60), (0, 0, 0)]
        for numbers in wrong:
            self.assertIs(keeps(self.LAYING, ("a", "b", *numbers)), False, numbers)
        self.assertIs(keeps(self.LAYING, ("b", "a", 4, -5, 60)), False)

    def test_two_groups(self):
        for link in [("a", "c", 4, -5, 60), ("c", "a", -4, 5, -60), ("b", "c", 0, 0, 0), ("c", "d", 0, 0, 0)]:
            self.assertIs(keeps(self.LAYING, link), False, link)

    def test_view_of_another_group_than_the_laying(self):
        laying = lay_group(linked("a b c", [("a", "b", 0, 0, 0)]), ["a", "b"])[1]
        self.assertIs(keeps(laying, ("b", "a", 0, 0, 0)), True)
        self.assertIs(keeps(laying, ("a", "c", 0, 0, 0)), False)
        self.assertIs(keeps(laying, ("c", "a", 0, 0, 0)), False)

    def test_laying_stays(self):
        laying = dict(self.LAYING)
        keeps(laying, ("a", "b", 4, -5, 60))
        self.assertEqual(laying, self.LAYING)


class Sums(unittest.TestCase):
    def setUp(self):
        links = [("a", "b", 1, -20, 300), ("b", "c", 2, 30, -400), ("a", "c", -5, 60, 700)]
        self.album = linked("a b c", links)

    def check_sum(self, ring, expected):
        found = ring_sum(self.album, ring)
        self.assertEqual((type(found), found), (tuple, expected))

    def test_forward_and_back(self):
        self.check_sum(((0, True), (1, True), (2, False)), (8, -50, -800))
        self.check_sum(((2, True), (1, False), (0, False)), (-8, 50, 800))
        self.check_sum(((1, True), (2, False), (0, True)), (8, -50, -800))

    def test_there_and_back(self):
        for number in range(3):
            self.check_sum(((number, True), (number, False)), (0, 0, 0))
            self.check_sum(((number, False), (number, True)), (0, 0, 0))

    def test_round_twice(self):
        self.check_sum(((0, True), (1, True), (2, False)) * 2, (16, -100, -1600))

    def test_links_in_both_directions(self):
        album = linked("a b", [("a", "b", 1, 2, 3), ("b", "a", 10, 20, 30)])
        self.assertEqual(ring_sum(album, ((0, True), (1, True))), (11, 22, 33))
        self.assertEqual(ring_sum(album, ((1, False), (0, False))), (-11, -22, -33))

    def test_album_stays(self):
        before = show_album(self.album)
        self.check_sum(((0, True), (0, False)), (0, 0, 0))
        self.assertEqual(show_album(self.album), before)


class ToldRings(unittest.TestCase):
    def check_ring(self, names, pairs, expected):
        """Pairs are ONE-TWO, with * for each 1 of light."""
        links = [(pair[0], pair[2], 0, 0, pair.count("*")) for pair in pairs.split()]
        album = linked(names, links)
        before = show_album(album)
        self.assertEqual(lay(album), ("ring", expected))
        self.assertEqual(show_album(album), before)

    def test_example(self):
        album = linked("a b", [("a", "b", 1, 0, 0), ("a", "b", 1, 1, 0)])
        self.assertEqual(lay(album), ("ring", ((1, True), (0, False))))
        self.assertEqual(lay_group(album, ["a", "b"]), ("ring", ((1, True), (0, False))))

    def test_each_number_of_a_link_may_bar(self):
        for numbers in [(1, 0, 0), (0, 1, 0), (0, 0, 1), (-1, 0, 0), (0, -1, 0), (0, 0, -1), (99, -99, 999)]:
            album = linked("a b", [("a", "b", 0, 0, 0), ("a", "b", *numbers)])
            self.assertEqual(lay(album), ("ring", ((1, True), (0, False))))

    def test_links_in_both_directions(self):
        self.check_ring("a b", "a-b b-a*", ((0, True), (1, True)))
        self.check_ring("b a", "a-b b-a*", ((1, True), (0, True)))
        self.check_ring("b a", "a-b a-b*", ((0, False), (1, True)))

    def test_kinds(self):
        answer = lay(linked("a b c", [("a", "b", 0, 0, 0), ("b", "c", 0, 0, 0), ("a", "c", 1, 0, 0)]))
        self.assertEqual([type(value) for value in (answer, answer[1], *answer[1])], [tuple] * 5)
        for number, forward in answer[1]:
            self.assertEqual((type(number), type(forward)), (int, bool))

    def test_breadth_first_in_the_order_of_finding(self):
        # From a the link 0 leads to c before the link 1 leads to b, so d is found from c.
        self.check_ring("a b c d", "a-c a-b b-d c-d*", ((1, True), (2, True), (3, False), (0, False)))
        self.check_ring("a b c d", "a-b a-c b-d c-d*", ((1, True), (3, True), (2, False), (0, False)))

    def test_links_of_a_view_by_their_numbers(self):
        self.check_ring("a b c", "b-c* a-c a-b", ((2, True), (0, True), (1, False)))
        self.check_ring("a b", "a-b* a-b a-b", ((1, True), (0, False)))

    def test_fewest_steps_come_before_the_group(self):
        self.check_ring("a b c d e", "a-b b-c c-a* d-e e-d*", ((3, True), (4, True)))

    def test_fewest_steps_come_before_the_view(self):
        self.check_ring("a b c d", "a-b b-c c-a* c-d d-c*", ((3, True), (4, True)))
        self.check_ring("a b c", "a-b b-c b-c*", ((2, True), (1, False)))

    def test_least_number_of_the_group(self):
        self.check_ring("a b c d", "c-d c-d* b-a b-a*", ((2, False), (3, True)))
        self.check_ring("a c d b", "c-d c-d* b-a b-a*", ((2, False), (3, True)))

    def test_group_comes_before_the_view_and_the_link(self):
        self.check_ring("a b c d e", "b-c b-c* a-d d-e d-e*", ((4, True), (3, False)))

    def test_least_index_of_the_view(self):
        self.check_ring("a b c d", "b-c b-c* a-b a-d a-d*", ((4, True), (3, False)))
        self.check_ring("c b a d", "b-c b-c* a-b a-d a-d*", ((0, False), (1, True)))

    def test_least_number_of_the_link(self):
        self.check_ring("a b c", "a-b a-c a-c* a-b*", ((2, True), (1, False)))
        self.check_ring("a b c", "a-b a-c a-b* a-c*", ((2, True), (0, False)))
        self.check_ring("a b", "a-b a-b a-b* a-b**", ((2, True), (0, False)))

    def test_ring_of_a_square_with_a_tail(self):
        self.check_ring("e a b c d", "e-a a-b b-c c-d a-d*", ((1, True), (2, True), (3, True), (4, False)))

    def test_longest_ring(self):
        names = [f"n{number}" for number in range(30)]
        links = [(names[at], names[(at + 1) % 30], 0, 0, at // 29) for at in range(30)]
        told = tuple((number, True) for number in range(30))
        self.assertEqual(lay(linked(" ".join(names), links)), ("ring", told))

    def test_fullest_album(self):
        names = [f"n{number}" for number in range(30)]
        links = [(names[at % 30], names[(at * 7 + 3) % 30], at, at, at) for at in range(60)]
        album = linked(" ".join(names), links)
        rings = [told_ring(album, group) for group in groups(album)]
        self.assertEqual(lay(album), ("ring", min([ring for ring in rings if ring], key=len)))


class SmallAlbums(unittest.TestCase):
    def test_exactly_one_of_both(self):
        for album in ALBUMS:
            # A ring that bars, without a view twice, has no more steps than there are views.
            lengths = barring_lengths(album, len(album.names()))
            kind, told = lay(album)
            self.assertEqual(kind, "ring" if lengths else "laid")
            if lengths:
                self.assertEqual(len(told), min(lengths))

    def test_told_rings(self):
        for album in ALBUMS:
            kind, told = lay(album)
            self.assertEqual(told if kind == "ring" else None, told_ring(album, album.names()))
            if kind == "ring":
                self.assertIs(is_ring(album.links(), told), True)
                self.assertNotEqual(plain_sum(album.links(), told), (0, 0, 0))
                self.assertEqual(ring_sum(album, told), plain_sum(album.links(), told))


if __name__ == "__main__":
    unittest.main()

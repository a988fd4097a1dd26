"""Promises 3.1 and 3.2: links and albums."""

import unittest

from laidviews.album import Album, is_link
from laidviews.errors import Clashing, Misused, Oversized, Unknown

from samples import JUNK, Touchy, album_with, names_of

A = ("a", ((1, None), (2, 3)))
B = ("b", ((4,),))
C = ("c", ((5, 6),))
D = ("d", ((None,),))

AB = ("a", "b", 1, 0, 3)
BA = ("b", "a", -1, 0, -3)
BC = ("b", "c", 0, 2, 0)
AC = ("a", "c", 0, 0, 0)
CA = ("c", "a", 9, 9, 9)
CD = ("c", "d", 5, -5, 7)


def told(album):
    names = album.names()
    indexes = [album.index(name) for name in names]
    return (album.views(), names, album.links(), indexes, [album.view(name) for name in names])


class Links(unittest.TestCase):
    def test_links(self):
        right = [
            AB,
            ("a", "b", 0, 0, 0),
            ("b", "a", 0, 0, 0),
            ("abcdefgh", "abcdefgi", 99, 99, 999),
            ("z9", "z", -99, -99, -999),
        ]
        for value in right:
            self.assertIs(is_link(value), True, value)

    def test_limits_of_numbers(self):
        for limit, at in [(99, 2), (99, 3), (999, 4)]:
            for number in [-limit - 1, -limit, -limit + 1, -1, 0, 1, limit - 1, limit, limit + 1]:
                value = AB[:at] + (number,) + AB[at + 1:]
                self.assertIs(is_link(value), -limit <= number <= limit, value)

    def test_wrong_numbers(self):
        for number in ["1", None, "", (), (1,), [1], 1.0, True, False, Touchy(), *JUNK]:
            for at in (2, 3, 4):
                self.assertIs(is_link(AB[:at] + (number,) + AB[at + 1:]), False, (type(number), at))

    def test_wrong_names(self):
        for name in ["A", "", "1a", "a" * 9, None, 1, True, ("a",), ["b"], b"b", Touchy(), *JUNK]:
            self.assertIs(is_link((name, "b", 0, 0, 0)), False, type(name))
            self.assertIs(is_link(("a", name, 0, 0, 0)), False, type(name))

    def test_equal_names(self):
        self.assertIs(is_link(("a", "a", 0, 0, 0)), False)
        self.assertIs(is_link(("ab1", "".join(["ab", "1"]), 0, 0, 0)), False)

    def test_wrong_forms(self):
        wrong = [list(AB), AB[:4], AB[:0], AB + (0,), AB + (None,), (AB,), "ab123", b"ab123", dict.fromkeys(AB)]
        wrong += [None, 0, 5, {"a", "b", 1, 0, 3}, Touchy(), *JUNK]
        for value in wrong:
            self.assertIs(is_link(value), False, type(value))


class AlbumCase(unittest.TestCase):
    def check_told(self, album, views, links):
        names = [view[0] for view in views]
        self.assertEqual(told(album), (views, names, links, list(range(len(views))), views))

    def check_refused(self, album, kind, field, value, call, *arguments):
        before = told(album)
        with self.assertRaises(kind) as caught:
            call(*arguments)
        self.assertIs(type(caught.exception), kind)
        self.assertEqual(getattr(caught.exception, field), value)
        self.assertEqual(told(album), before)


class Adding(AlbumCase):
    def test_empty(self):
        self.check_told(Album(), [], [])

    def test_albums_share_nothing(self):
        first, second = Album(), Album()
        first.add_view(A)
        first.add_view(B)
        first.add_link(AB)
        self.check_told(second, [], [])

    def test_views_in_the_order_of_adding(self):
        album = Album()
        self.assertIsNone(album.add_view(C))
        self.check_told(album, [C], [])
        album.add_view(A)
        self.check_told(album, [C, A], [])
        album.add_view(B)
        self.check_told(album, [C, A, B], [])

    def test_links_in_the_order_of_adding(self):
        album = album_with([A, B, C], [])
        self.assertIsNone(album.add_link(BC))
        self.check_told(album, [A, B, C], [BC])
        album.add_link(AB)
        album.add_link(BA)
        self.check_told(album, [A, B, C], [BC, AB, BA])

    def test_equal_links_stand_beside_each_other(self):
        album = album_with([A, B], [AB, AB])
        self.check_told(album, [A, B], [AB, AB])

    def test_kinds(self):
        album = album_with([A, B], [AB])
        for found in (album.views(), album.names(), album.links()):
            self.assertIs(type(found), list)
        self.assertIs(type(album.index("b")), int)
        self.assertIs(type(album.twin()), Album)

    def test_no_view(self):
        album = album_with([A], [])
        for value in [None, "a", ["b", ((1,),)], ("b", ()), ("B", ((1,),)), ("b", ((True,),)), Touchy(), *JUNK]:
            self.check_refused(album, Misused, "why", "view", album.add_view, value)

    def test_clashing_view(self):
        album = album_with([A, B], [])
        self.check_refused(album, Clashing, "name", "a", album.add_view, A)
        self.check_refused(album, Clashing, "name", "b", album.add_view, ("b", ((9, 9),)))

    def test_no_view_comes_before_clashing(self):
        album = album_with([A], [])
        self.check_refused(album, Misused, "why", "view", album.add_view, ("a", ()))

    def test_no_link(self):
        album = album_with([A, B], [AB])
        wrong = [None, list(AB), ("a", "a", 0, 0, 0), ("a", "b", 100, 0, 0), ("a", "b", 0, -100, 0)]
        wrong += [("a", "b", 0, 0, 1000), ("a", "b", True, 0, 0), ("a", "B", 0, 0, 0), Touchy(), *JUNK]
        for value in wrong:
            self.check_refused(album, Misused, "why", "link", album.add_link, value)

    def test_unknown_names(self):
        album = album_with([A, B], [])
        self.check_refused(album, Unknown, "name", "x", album.add_link, ("x", "b", 0, 0, 0))
        self.check_refused(album, Unknown, "name", "y", album.add_link, ("a", "y", 0, 0, 0))
        self.check_refused(album, Unknown, "name", "x", album.add_link, ("x", "y", 0, 0, 0))
        self.check_refused(album, Unknown, "name", "y", album.add_link, ("y", "x", 0, 0, 0))

    def test_no_link_comes_before_unknown(self):
        album = album_with([A, B], [])
        self.check_refused(album, Misused, "why", "link", album.add_link, ("x", "y", 100, 0, 0))
        self.check_refused(album, Misused, "why", "link", album.add_link, ("x", "x", 0, 0, 0))


class Limits(AlbumCase):
    def setUp(self):
        self.many = [(name, ((number,),)) for number, name in enumerate(names_of(31))]
        self.full = album_with(self.many[:30], [])

    def test_thirty_views(self):
        self.check_told(self.full, self.many[:30], [])
        self.check_refused(self.full, Oversized, "limit", "views", self.full.add_view, self.many[30])

    def test_no_view_and_clashing_come_before_oversized(self):
        self.check_refused(self.full, Misused, "why", "view", self.full.add_view, ("new", ()))
        self.check_refused(self.full, Clashing, "name", "n29", self.full.add_view, self.many[29])

    def test_room_for_a_view_again(self):
        self.full.remove_view("n4")
        self.full.add_view(self.many[30])
        self.check_told(self.full, self.many[:4] + self.many[5:], [])
        self.check_refused(self.full, Oversized, "limit", "views", self.full.add_view, self.many[4])

    def test_sixty_links(self):
        links = [("a", "b", number, -number, number) for number in range(60)]
        album = album_with([A, B], links)
        self.check_told(album, [A, B], links)
        self.check_refused(album, Oversized, "limit", "links", album.add_link, AB)

    def test_no_link_and_unknown_come_before_oversized(self):
        album = album_with([A, B], [AB] * 60)
        self.check_refused(album, Misused, "why", "link", album.add_link, ("a", "a", 0, 0, 0))
        self.check_refused(album, Unknown, "name", "x", album.add_link, ("x", "b", 0, 0, 0))
        self.check_refused(album, Unknown, "name", "y", album.add_link, ("a", "y", 0, 0, 0))

    def test_room_for_a_link_again(self):
        album = album_with([A, B], [AB] * 60)
        album.remove_link(3)
        album.add_link(BA)
        self.check_told(album, [A, B], [AB] * 59 + [BA])
        self.check_refused(album, Oversized, "limit", "links", album.add_link, AB)

    def test_both_limits_together(self):
        links = [(f"n{k % 30}", f"n{(k + 1) % 30}", 0, 0, k) for k in range(60)]
        for link in links:
            self.full.add_link(link)
        self.check_told(self.full, self.many[:30], links)


class Removing(AlbumCase):
    def test_remove_link(self):
        album = album_with([A, B, C], [AB, BC, AC, CA])
        self.assertIsNone(album.remove_link(1))
        self.check_told(album, [A, B, C], [AB, AC, CA])
        album.remove_link(2)
        self.check_told(album, [A, B, C], [AB, AC])
        album.remove_link(0)
        self.check_told(album, [A, B, C], [AC])
        album.remove_link(0)
        self.check_told(album, [A, B, C], [])

    def test_remove_one_of_equal_links(self):
        album = album_with([A, B], [AB, BA, AB])
        album.remove_link(2)
        self.check_told(album, [A, B], [AB, BA])

    def test_no_such_link(self):
        album = album_with([A, B], [AB, BA])
        for number in [2, 3, 60, -1, -2, -3, 10 ** 30, True, False]:
            self.check_refused(album, Misused, "why", "number", album.remove_link, number)
        empty = Album()
        for number in [0, 1, -1]:
            self.check_refused(empty, Misused, "why", "number", empty.remove_link, number)

    def test_remove_view_without_links(self):
        album = album_with([A, B, C, D], [AB])
        self.assertIsNone(album.remove_view("c"))
        self.check_told(album, [A, B, D], [AB])

    def test_remove_view_with_all_its_links(self):
        links = [AB, CD, BA, AC, BC, CA]
        self.check_removed("a", [B, C, D], links, [CD, BC])
        self.check_removed("b", [A, C, D], links, [CD, AC, CA])
        self.check_removed("c", [A, B, D], links, [AB, BA])
        self.check_removed("d", [A, B, C], links, [AB, BA, AC, BC, CA])

    def check_removed(self, name, views, links, left):
        album = album_with([A, B, C, D], links)
        album.remove_view(name)
        self.check_told(album, views, left)
        self.check_refused(album, Unknown, "name", name, album.view, name)
        self.check_refused(album, Unknown, "name", name, album.index, name)

    def test_numbers_behind_remove_view(self):
        album = album_with([A, B, C, D], [AB, CD, AC, BC])
        album.remove_view("a")
        album.remove_link(1)
        self.check_told(album, [B, C, D], [CD])
        self.check_refused(album, Misused, "why", "number", album.remove_link, 1)

    def test_a_view_that_comes_back_is_the_last_one(self):
        album = album_with([A, B, C], [AB, BC])
        album.remove_view("a")
        album.add_view(("a", ((8,),)))
        self.check_told(album, [B, C, ("a", ((8,),))], [BC])

    def test_names_alike_are_different(self):
        long = ("ab", ((1,),))
        album = album_with([A, B, long], [("ab", "b", 0, 0, 0), AB])
        album.remove_view("a")
        self.check_told(album, [B, long], [("ab", "b", 0, 0, 0)])

    def test_remove_unknown_view(self):
        album = album_with([A, B], [AB])
        self.check_refused(album, Unknown, "name", "c", album.remove_view, "c")


class Asking(AlbumCase):
    def test_view_and_index(self):
        album = album_with([C, A, B], [])
        self.assertEqual(album.view("a"), A)
        self.assertEqual(album.view("c"), C)
        self.assertEqual([album.index(name) for name in ("a", "b", "c")], [1, 2, 0])

    def test_unknown(self):
        album = album_with([A, B], [AB])
        for name in ["c", "ab", "", "A", "n1"]:
            self.check_refused(album, Unknown, "name", name, album.view, name)
            self.check_refused(album, Unknown, "name", name, album.index, name)
            self.check_refused(album, Unknown, "name", name, album.remove_view, name)

    def test_returned_lists_are_new(self):
        album = album_with([A, B], [AB])
        for ask in (album.views, album.names, album.links):
            ask().clear()
            ask().append("x")
        self.check_told(album, [A, B], [AB])

    def test_returned_lists_stay(self):
        album = album_with([A, B], [AB])
        views, names, links = album.views(), album.names(), album.links()
        album.add_view(C)
        album.add_link(BC)
        album.remove_link(0)
        album.remove_view("a")
        self.assertEqual((views, names, links), ([A, B], ["a", "b"], [AB]))


class Twins(AlbumCase):
    def test_same(self):
        album = album_with([C, A, B], [BC, AB])
        self.check_told(album.twin(), [C, A, B], [BC, AB])
        self.check_told(Album().twin(), [], [])

    def test_changed_twin(self):
        album = album_with([A, B, C], [AB, BC])
        for change in self.changes():
            twin = album.twin()
            change(twin)
            self.assertNotEqual(told(twin), told(album))
            self.check_told(album, [A, B, C], [AB, BC])

    def test_changed_album(self):
        for change in self.changes():
            album = album_with([A, B, C], [AB, BC])
            twin = album.twin()
            change(album)
            self.check_told(twin, [A, B, C], [AB, BC])

    def changes(self):
        return [
            lambda album: album.add_view(D),
            lambda album: album.add_link(CA),
            lambda album: album.remove_link(0),
            lambda album: album.remove_view("c"),
        ]


if __name__ == "__main__":
    unittest.main()

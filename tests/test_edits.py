"""Promises 11.1 and 11.2: keepers."""

import random
import unittest
from unittest import mock

from laidviews.album import Album, show_album
from laidviews.edits import Keeper
from laidviews.errors import Clashing, Misused, Oversized, Unknown
from laidviews.laying import groups, lay, lay_group

from samples import JUNK, linked, names_of, random_link, small_albums

# The methods of keepers with the methods of albums that do the same.
METHODS = [("put_view", "add_view"), ("put_link", "add_link"), ("take_link", "remove_link"), ("take_view", "remove_view")]

E = ("e", ((1,),))


def told(answer):
    """An answer with the order of its keys."""
    kind, found = answer
    return (kind, list(found.items()) if kind == "laid" else found)


def groups_of(album, names):
    """The names of all groups that have one of these names, in the order of the album."""
    touched = [group for group in groups(album) if any(name in group for name in names)]
    return [name for name in album.names() if any(name in group for group in touched)]


class KeeperCase(unittest.TestCase):
    def check_keeper(self, keeper, text):
        self.assertEqual(show_album(keeper.album()), text)
        answer = keeper.answer()
        self.assertEqual((type(answer), type(keeper.album())), (tuple, Album))
        self.assertEqual(told(answer), told(lay(keeper.album())))

    def check_change(self, keeper, method, value, laid):
        """Check a change by what is returned, by the groups for which lay_group is called, and by lay."""
        album = keeper.album()
        getattr(album, dict(METHODS)[method])(value)
        with mock.patch("laidviews.edits.lay_group", side_effect=lay_group) as spy:
            returned = getattr(keeper, method)(value)
        self.assertEqual((type(returned), returned), (list, laid))
        called = [list(call.args[1]) for call in spy.call_args_list]
        self.assertEqual(called, [group for group in groups(album) if group[0] in laid])
        self.check_keeper(keeper, show_album(album))

    def check_refused(self, keeper, method, value, kind, field, expected):
        text, answer = show_album(keeper.album()), told(keeper.answer())
        with self.assertRaises(kind) as caught:
            getattr(keeper, method)(value)
        self.assertIs(type(caught.exception), kind)
        self.assertEqual(getattr(caught.exception, field), expected)
        self.assertEqual(told(keeper.answer()), answer)
        self.check_keeper(keeper, text)


class Beginning(KeeperCase):
    def test_empty(self):
        self.check_keeper(Keeper(Album()), "")
        self.assertEqual(Keeper(Album()).answer(), ("laid", {}))

    def test_small_albums(self):
        for album in small_albums(100, 6):
            text = show_album(album)
            self.check_keeper(Keeper(album), text)
            self.assertEqual(show_album(album), text)

    def test_full_album(self):
        names = names_of(30)
        links = [(names[at % 30], names[(at * 7 + 3) % 30], at, at, at) for at in range(60)]
        album = linked(" ".join(names), links)
        self.check_keeper(Keeper(album), show_album(album))

    def test_keepers_share_nothing(self):
        album = linked("a b", [("a", "b", 1, 2, 3)])
        first, second = Keeper(album), Keeper(album)
        first.take_view("a")
        self.check_keeper(second, show_album(album))
        second.take_link(0)
        self.check_keeper(first, "view b\n1\nend\n")
        self.assertEqual(album.links(), [("a", "b", 1, 2, 3)])


class Independent(KeeperCase):
    def setUp(self):
        self.given = linked("a b c", [("a", "b", 1, 2, 3), ("c", "b", 4, 5, 6)])
        self.text = show_album(self.given)
        self.keeper = Keeper(self.given)

    def test_given_album(self):
        for album in (self.given, self.keeper.album()):
            album.add_view(E)
            album.add_link(("e", "a", 0, 0, 0))
            album.remove_link(0)
            album.remove_view("b")
            self.check_keeper(self.keeper, self.text)

    def test_the_given_album_stays(self):
        self.keeper.put_view(E)
        self.keeper.put_link(("e", "a", 0, 0, 0))
        self.keeper.take_link(0)
        self.keeper.take_view("b")
        self.assertEqual(show_album(self.given), self.text)

    def test_answers(self):
        self.keeper.answer()[1].clear()
        self.keeper.answer()[1]["a"] = "x"
        self.check_keeper(self.keeper, self.text)

    def test_returned_answers_and_albums_stay(self):
        answer, album = self.keeper.answer(), self.keeper.album()
        expected = {"a": (0, 0, 0, 0), "b": (0, 1, 2, 3), "c": (0, -3, -3, -3)}
        self.keeper.take_view("a")
        self.keeper.put_link(("b", "c", 1, 1, 1))
        self.assertEqual(answer, ("laid", expected))
        self.assertEqual(show_album(album), self.text)

    def test_returned_names(self):
        names = self.keeper.put_link(("a", "c", 1, 1, 1))
        names.clear()
        self.check_change(self.keeper, "take_link", 2, ["a", "b", "c"])

    def test_group_that_is_kept_through_its_answer(self):
        keeper = Keeper(linked("a b c", [("b", "c", 1, 2, 3)]))
        keeper.answer()[1].clear()
        self.check_change(keeper, "put_view", E, ["e"])
        keeper.answer()[1].clear()
        self.check_change(keeper, "take_view", "a", [])


class PutViews(KeeperCase):
    def test_put_view(self):
        keeper = Keeper(Album())
        for name in ["c", "a", "b"]:
            self.check_change(keeper, "put_view", (name, ((1, None),)), [name])
        self.assertEqual(list(keeper.answer()[1].items()), [("c", (0, 0, 0, 0)), ("a", (1, 0, 0, 0)), ("b", (2, 0, 0, 0))])
        self.assertEqual(keeper.album().view("a"), ("a", ((1, None),)))

    def test_beside_a_ring(self):
        keeper = Keeper(linked("a b", [("a", "b", 0, 0, 0), ("a", "b", 0, 0, 1)]))
        self.check_change(keeper, "put_view", E, ["e"])
        self.assertEqual(keeper.answer(), ("ring", ((1, True), (0, False))))

    def test_view_that_comes_back(self):
        keeper = Keeper(linked("a b c", [("a", "b", 0, 0, 0)]))
        self.check_change(keeper, "take_view", "a", ["b"])
        self.check_change(keeper, "put_view", ("a", ((9,),)), ["a"])
        self.assertEqual(keeper.album().names(), ["b", "c", "a"])

    def test_refused(self):
        keeper = Keeper(linked("a b", [("a", "b", 0, 0, 0)]))
        for value in [None, "e", ("e", ()), ["e", ((1,),)], ("e", ((1000,),)), *JUNK]:
            self.check_refused(keeper, "put_view", value, Misused, "why", "view")
        self.check_refused(keeper, "put_view", ("b", ((2,),)), Clashing, "name", "b")
        full = Keeper(linked(" ".join(names_of(30)), []))
        self.check_refused(full, "put_view", E, Oversized, "limit", "views")


class PutLinks(KeeperCase):
    def test_two_groups_become_one(self):
        keeper = Keeper(linked("e d c b a", [("d", "a", 1, 1, 1), ("c", "b", 2, 2, 2)]))
        self.check_change(keeper, "put_link", ("c", "a", 7, 8, 9), ["d", "c", "b", "a"])
        self.check_change(keeper, "put_link", ("b", "e", 0, 0, 0), ["e", "d", "c", "b", "a"])
        self.assertEqual(keeper.answer()[1]["e"], (0, 0, 0, 0))

    def test_within_a_group(self):
        keeper = Keeper(linked("a b c d", [("a", "c", 1, 0, 0), ("b", "d", 0, 0, 0)]))
        self.check_change(keeper, "put_link", ("c", "a", -1, 0, 0), ["a", "c"])
        self.assertEqual(keeper.answer()[0], "laid")
        self.check_change(keeper, "put_link", ("c", "a", -1, 0, 1), ["a", "c"])
        self.assertEqual(keeper.answer(), ("ring", ((0, True), (3, True))))

    def test_ring_of_another_group(self):
        keeper = Keeper(linked("a b c d", [("c", "d", 0, 0, 0), ("c", "d", 0, 0, 1), ("a", "b", 0, 0, 0)]))
        self.assertEqual(keeper.answer(), ("ring", ((1, True), (0, False))))
        self.check_change(keeper, "put_link", ("a", "b", 1, 0, 0), ["a", "b"])
        self.assertEqual(keeper.answer(), ("ring", ((3, True), (2, False))))

    def test_refused(self):
        keeper = Keeper(linked("a b c", [("a", "b", 0, 0, 0)]))
        for value in [None, ["a", "b", 0, 0, 0], ("a", "a", 0, 0, 0), ("a", "b", 100, 0, 0), ("a", "b", True, 0, 0), *JUNK]:
            self.check_refused(keeper, "put_link", value, Misused, "why", "link")
        self.check_refused(keeper, "put_link", ("x", "y", 0, 0, 0), Unknown, "name", "x")
        self.check_refused(keeper, "put_link", ("a", "y", 0, 0, 0), Unknown, "name", "y")
        full = Keeper(linked("a b", [("a", "b", 0, 0, 0)] * 60))
        self.check_refused(full, "put_link", ("a", "b", 0, 0, 0), Oversized, "limit", "links")


class TakeLinks(KeeperCase):
    def test_group_falls_into_two(self):
        keeper = Keeper(linked("d c b a e", [("d", "b", 1, 1, 1), ("b", "a", 5, 5, 5), ("a", "c", 2, 2, 2)]))
        self.check_change(keeper, "take_link", 1, ["d", "c", "b", "a"])
        places = {"d": (0, 0, 0, 0), "c": (1, 0, 0, 0), "b": (0, 1, 1, 1), "a": (1, -2, -2, -2), "e": (4, 0, 0, 0)}
        self.assertEqual(keeper.answer(), ("laid", places))
        self.check_change(keeper, "take_link", 0, ["d", "b"])
        self.check_change(keeper, "take_link", 0, ["c", "a"])

    def test_group_that_stays_one(self):
        keeper = Keeper(linked("a b c d", [("a", "b", 0, 0, 0), ("a", "b", 0, 0, 1), ("c", "d", 0, 0, 0)]))
        self.check_change(keeper, "take_link", 0, ["a", "b"])
        self.assertEqual(keeper.answer()[1]["b"], (0, 0, 0, 1))

    def test_numbers_of_links_in_kept_rings(self):
        links = [("a", "b", 0, 0, 0), ("c", "d", 0, 0, 0), ("a", "b", 0, 0, 0), ("d", "c", 1, 0, 0), ("b", "a", 0, 0, 0)]
        keeper = Keeper(linked("a b c d", links))
        self.assertEqual(keeper.answer(), ("ring", ((1, True), (3, True))))
        self.check_change(keeper, "take_link", 4, ["a", "b"])
        self.assertEqual(keeper.answer(), ("ring", ((1, True), (3, True))))
        self.check_change(keeper, "take_link", 2, ["a", "b"])
        self.assertEqual(keeper.answer(), ("ring", ((1, True), (2, True))))
        self.check_change(keeper, "take_link", 0, ["a", "b"])
        self.assertEqual(keeper.answer(), ("ring", ((0, True), (1, True))))

    def test_refused(self):
        keeper = Keeper(linked("a b", [("a", "b", 0, 0, 0), ("a", "b", 0, 0, 1)]))
        for number in [2, 60, -1, -2, 10 ** 30, True, False]:
            self.check_refused(keeper, "take_link", number, Misused, "why", "number")
        self.check_refused(Keeper(Album()), "take_link", 0, Misused, "why", "number")


class TakeViews(KeeperCase):
    def test_view_without_links(self):
        keeper = Keeper(linked("a b c", [("a", "c", 1, 1, 1)]))
        self.check_change(keeper, "take_view", "b", [])
        self.check_change(keeper, "take_view", "a", ["c"])
        self.check_change(keeper, "take_view", "c", [])
        self.assertEqual(keeper.answer(), ("laid", {}))

    def test_group_falls_into_parts(self):
        links = [("h", "e", 1, 0, 0), ("d", "h", 2, 0, 0), ("h", "b", 3, 0, 0), ("e", "a", 4, 0, 0), ("c", "f", 5, 0, 0)]
        keeper = Keeper(linked("h f e d c b a", links))
        self.check_change(keeper, "take_view", "h", ["e", "d", "b", "a"])
        places = {"f": (0, 0, 0, 0), "e": (1, 0, 0, 0), "d": (2, 0, 0, 0), "c": (0, -5, 0, 0)}
        places |= {"b": (4, 0, 0, 0), "a": (1, 4, 0, 0)}
        self.assertEqual(keeper.answer(), ("laid", places))

    def test_group_that_stays_one(self):
        links = [("a", "b", 0, 0, 0), ("b", "c", 0, 0, 0), ("c", "a", 0, 0, 0), ("c", "a", 0, 0, 0)]
        self.check_change(Keeper(linked("c b a d", links)), "take_view", "b", ["c", "a"])
        self.check_change(Keeper(linked("c b a d", links)), "take_view", "c", ["b", "a"])

    def test_numbers_of_kept_groups(self):
        keeper = Keeper(linked("a b c d", [("d", "b", 1, 2, 3)]))
        self.check_change(keeper, "take_view", "c", [])
        self.assertEqual(keeper.answer()[1]["d"], (1, -1, -2, -3))
        self.check_change(keeper, "take_view", "a", [])
        self.assertEqual(keeper.answer(), ("laid", {"b": (0, 0, 0, 0), "d": (0, -1, -2, -3)}))

    def test_numbers_of_links_in_kept_rings(self):
        links = [("a", "b", 0, 0, 0), ("c", "d", 0, 0, 0), ("b", "a", 0, 0, 0), ("a", "b", 0, 0, 0), ("d", "c", 1, 0, 0)]
        keeper = Keeper(linked("a b c d e", links + [("e", "b", 0, 0, 0)]))
        self.assertEqual(keeper.answer(), ("ring", ((1, True), (4, True))))
        self.check_change(keeper, "take_view", "e", ["a", "b"])
        self.assertEqual(keeper.answer(), ("ring", ((1, True), (4, True))))
        self.check_change(keeper, "take_view", "b", ["a"])
        self.assertEqual(keeper.answer(), ("ring", ((0, True), (1, True))))
        self.check_change(keeper, "take_view", "a", [])
        self.assertEqual(keeper.answer(), ("ring", ((0, True), (1, True))))
        self.check_change(keeper, "take_view", "c", ["d"])
        self.assertEqual(keeper.answer(), ("laid", {"d": (0, 0, 0, 0)}))

    def test_refused(self):
        keeper = Keeper(linked("a b", [("a", "b", 0, 0, 0), ("a", "b", 0, 0, 1)]))
        for name in ["c", "", "A", "ab"]:
            self.check_refused(keeper, "take_view", name, Unknown, "name", name)
        keeper.take_view("a")
        self.check_refused(keeper, "take_view", "a", Unknown, "name", "a")


class ManyChanges(KeeperCase):
    def change(self, source, album):
        """A change that the album allows, and the names whose groups are laid anew behind it."""
        names, links = album.names(), album.links()
        choice = source.random()
        if len(names) < 2 or choice < 0.25 and len(names) < 9:
            name = source.choice([name for name in "abcdefghij" if name not in names])
            return ("put_view", (name, ((1,),)), [name])
        if choice < 0.7:
            link = random_link(source, names, 1 if source.random() < 0.3 else 0)
            return ("put_link", link, list(link[:2]))
        if choice < 0.9 and links:
            number = source.randrange(len(links))
            return ("take_link", number, list(links[number][:2]))
        name = source.choice(names)
        return ("take_view", name, [other for link in links if name in link[:2] for other in link[:2]])

    def test_any_changes(self):
        source = random.Random(8)
        kinds = {"laid": 0, "ring": 0}
        for _ in range(40):
            keeper = Keeper(Album())
            for _ in range(30):
                method, value, touched = self.change(source, keeper.album())
                behind = keeper.album()
                getattr(behind, dict(METHODS)[method])(value)
                self.check_change(keeper, method, value, groups_of(behind, touched))
                kinds[keeper.answer()[0]] += 1
        self.assertGreater(min(kinds.values()), 200)


if __name__ == "__main__":
    unittest.main()

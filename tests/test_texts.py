"""Promise 3.3: the text of an album."""

import unittest

from laidviews.album import Album, album_of, show_album
from laidviews.errors import Malformed

from samples import names_of

TEXT = """view a
1 .
2 3
end
view b
4
end
link a b 1 0 3
"""


class TextCase(unittest.TestCase):
    def check_read(self, text, views, links):
        album = album_of(text)
        self.assertIs(type(album), Album)
        self.assertEqual((album.views(), album.links()), (views, links))

    def check_malformed(self, text, at):
        with self.assertRaises(Malformed, msg=text) as caught:
            album_of(text)
        self.assertIs(type(caught.exception), Malformed)
        self.assertEqual(caught.exception.at, at, text)


class Reading(TextCase):
    VIEWS = [("a", ((1, None), (2, 3))), ("b", ((4,),))]
    LINKS = [("a", "b", 1, 0, 3)]

    def test_example(self):
        self.check_read(TEXT, self.VIEWS, self.LINKS)

    def test_last_newline_is_free(self):
        self.check_read(TEXT[:-1], self.VIEWS, self.LINKS)

    def test_no_text(self):
        self.check_read("", [], [])
        self.check_read("\n", [], [])
        self.check_read("\n\n\n", [], [])

    def test_empty_lines_everywhere(self):
        self.check_read("\n\n" + TEXT.replace("\n", "\n\n\n"), self.VIEWS, self.LINKS)

    def test_readings(self):
        self.check_read("view a\n0 999 .\nend", [("a", ((0, 999, None),))], [])
        self.check_read("view a\n.\n.\nend", [("a", ((None,), (None,)))], [])

    def test_numbers_of_links(self):
        head = "view a\n1\nend\nview b\n1\nend\n"
        views = [("a", ((1,),)), ("b", ((1,),))]
        self.check_read(head + "link b a -99 99 -999", views, [("b", "a", -99, 99, -999)])
        self.check_read(head + "link a b 0 -1 999\n", views, [("a", "b", 0, -1, 999)])
        self.check_read(head + "link a b 10 -10 100\n", views, [("a", "b", 10, -10, 100)])

    def test_links_as_soon_as_both_views_stand(self):
        text = "view a\n1\nend\nview b\n1\nend\nlink b a 0 0 0\nview c\n2\nend\nlink c a 1 1 1\nlink a b 2 2 2"
        views = [("a", ((1,),)), ("b", ((1,),)), ("c", ((2,),))]
        self.check_read(text, views, [("b", "a", 0, 0, 0), ("c", "a", 1, 1, 1), ("a", "b", 2, 2, 2)])

    def test_names_that_are_words_of_the_text(self):
        text = "view end\n1\nend\nview link\n2\nend\nview view\n3\nend\nlink link end 0 0 0\n"
        views = [("end", ((1,),)), ("link", ((2,),)), ("view", ((3,),))]
        self.check_read(text, views, [("link", "end", 0, 0, 0)])

    def test_greatest_view(self):
        row = tuple(range(12))
        line = " ".join(str(number) for number in row) + "\n"
        self.check_read("view a\n" + line * 12 + "end\n", [("a", (row,) * 12)], [])

    def test_reading_gives_independent_albums(self):
        first, second = album_of(TEXT), album_of(TEXT)
        first.remove_view("a")
        self.assertEqual(second.names(), ["a", "b"])


class SpoiltRows(TextCase):
    def check_row(self, row, at):
        self.check_malformed("view a\n1 2\n" + row + "\nend\n", at)

    def test_row_that_is_not_well_formed(self):
        wrong = ["01 2", "1 02", "00 1", "+1 2", "1 +2", "-0 1", "1 -0", "-01 1", "--1 1", "- 1", "1 -", "1000000000 1"]
        wrong += ["0000000001 1", "-1000000000 1", "1  2", " 1 2", "1 2 ", " ", "1 \t2", "1\t2", "x 1", "1 x", "1,2", "1.0 2"]
        wrong += [".. 1", "None 1", "1 -.", "1_0 1", "1e1 1", "0x1 1", "1 2\r", "\xb2 1", "\u0663 1", "1\x0b2", "1\xa02"]
        wrong += ["view b", "link a b 0 0 0", "END", "end ", " end", "end end", "ende", "1 end"]
        for row in wrong:
            self.check_row(row, 2)

    def test_line_break_signs_other_than_newlines(self):
        for sign in ["\r", "\x0b", "\x0c", "\x1c", "\x85", "\u2028"]:
            self.check_malformed("view a\n1" + sign + "2\nend\n", 1)

    def test_row_of_the_right_form_that_makes_no_view(self):
        for row in ["1", "1 2 3", "-1 2", "1 1000", ". 999999999", "-999999999 .", "123456789 -123456789"]:
            self.check_row(row, 3)

    def test_first_row_is_checked_too(self):
        self.check_malformed("view a\n01\nend", 1)
        self.check_malformed("view a\n1000\nend", 2)

    def test_no_row(self):
        self.check_malformed("view a\nend\n", 1)
        self.check_malformed("view a\n\n\nend\n", 3)

    def test_too_many_rows_and_columns(self):
        self.check_malformed("view a\n" + "1\n" * 13 + "end\n", 14)
        self.check_malformed("view a\n" + "1 " * 12 + "1\nend\n", 2)

    def test_first_spoilt_line_is_told(self):
        self.check_malformed("view a\n1\n2 3\n01\nend\n", 3)
        self.check_malformed("view a\n1\n2 3\nend\nlink\n", 3)
        self.check_malformed("view a\n01\n+1\nend\n", 1)


class SpoiltViews(TextCase):
    def test_view_line(self):
        wrong = ["view", "view ", "view A", "view 1", "view abcdefghi", "view a b", "view  a", " view a", "view a ", "view\ta"]
        wrong += ["View a", "VIEW a", "views a", "view a\r", "view \xe4", "viewa", "view a.", "view a end"]
        for line in wrong:
            self.check_malformed(line + "\n1\nend\n", 0)
            self.check_malformed("view z\n1\nend\n\n" + line + "\n1\nend\n", 4)

    def test_wrong_words(self):
        for line in ["end", "1", "1 2", ".", " ", "  ", "x", "view_a", "# a", "\t", "\r", "links a b 0 0 0", "Link a b 0 0 0"]:
            self.check_malformed(line, 0)
            self.check_malformed("view a\n1\nend\nview b\n1\nend\n\n" + line + "\n", 7)

    def test_end_twice(self):
        self.check_malformed("view a\n1\nend\nend\n", 3)

    def test_doubled_view(self):
        self.check_malformed("view a\n1\nend\nview a\n1\nend\n", 5)
        self.check_malformed("view a\n1\nend\n\nview a\n\n2\n3\n\nend\nlink", 9)

    def test_doubled_view_behind_a_spoilt_row(self):
        self.check_malformed("view a\n1\nend\nview a\n+1\nend\n", 4)

    def test_too_many_views(self):
        text = "".join([f"view {name}\n1\nend\n" for name in names_of(31)])
        self.check_malformed(text, 92)
        self.assertEqual(len(album_of("\n".join(text.split("\n")[:90])).names()), 30)


class SpoiltLinks(TextCase):
    HEAD = "view a\n1\nend\nview b\n1\nend\n"

    def check_link(self, line):
        self.check_malformed(self.HEAD + line, 6)
        self.check_malformed(self.HEAD + "link a b 0 0 0\n\n" + line + "\nlink\n", 8)

    def test_numbers(self):
        wrong = ["00", "01", "-01", "-00", "-0", "+0", "+1", "--1", "-", "", ".", "x", "1.0", "1e1", "0x1", "1_0", "\xb2"]
        wrong += ["\u0663", "1000000000", "-1000000000", "0000000001", "None", "1-", "1 1"]
        for word in wrong:
            self.check_link(f"link a b {word} 0 0")
            self.check_link(f"link a b 0 {word} 0")
            self.check_link(f"link a b 0 0 {word}")

    def test_numbers_that_make_no_link(self):
        for line in ["100 0 0", "-100 0 0", "0 100 0", "0 -100 0", "0 0 1000", "0 0 -1000", "999999999 0 0", "0 0 -999999999"]:
            self.check_link("link a b " + line)

    def test_words_and_spaces(self):
        wrong = ["link", "link ", "link a", "link a b", "link a b 0", "link a b 0 0", "link a b 0 0 0 0", "link a b 0 0 0 "]
        wrong += [" link a b 0 0 0", "link  a b 0 0 0", "link a  b 0 0 0", "link a b  0 0 0", "link a b 0  0 0", "link a b 0 0  0"]
        wrong += ["link\ta b 0 0 0", "link a b 0 0 0\r", "Link a b 0 0 0", "links a b 0 0 0", "lin a b 0 0 0", "a b 0 0 0"]
        wrong += ["view a b 0 0 0", "1 a b 0 0 0", "end a b 0 0 0", "linka b 0 0 0", "link a b 0 0 0 end", "link a b 0, 0, 0"]
        for line in wrong:
            self.check_link(line)

    def test_names(self):
        for names in ["A b", "a B", "a a", "b b", "1 b", "a 1", "a abcdefghi", "a c", "c a", "c d", "a a1", ". b"]:
            self.check_link(f"link {names} 0 0 0")

    def test_views_that_are_not_there_yet(self):
        self.check_malformed("link a b 0 0 0\n" + self.HEAD, 0)
        self.check_malformed("view a\n1\nend\nlink a b 0 0 0\nview b\n1\nend\n", 3)
        self.check_malformed("view a\n1\nend\nlink b a 0 0 0\nview b\n1\nend\n", 3)

    def test_too_many_links(self):
        self.assertEqual(len(album_of(self.HEAD + "link a b 0 0 0\n" * 60).links()), 60)
        self.check_malformed(self.HEAD + "link a b 0 0 0\n" * 61, 66)


class MissingEnds(TextCase):
    def test_number_of_lines(self):
        self.check_malformed("view a", 1)
        self.check_malformed("view a\n", 2)
        self.check_malformed("view a\n1", 2)
        self.check_malformed("view a\n1\n", 3)
        self.check_malformed("view a\n1\n\n\n", 5)
        self.check_malformed("\nview a\n\n1", 4)
        self.check_malformed("view a\n1\nend\nview b\n2\n", 6)

    def test_whatever_the_view_would_be(self):
        self.check_malformed("view a\n1\n2 3\n1000\n", 5)
        self.check_malformed("view a\n1\nend\nview a\n1", 5)

    def test_spoilt_row_comes_first(self):
        self.check_malformed("view a\n1\nend\nview b\n01\n", 4)


class Showing(TextCase):
    def test_empty(self):
        self.assertEqual(show_album(Album()), "")

    def test_example(self):
        self.assertEqual(show_album(album_of(TEXT)), TEXT)

    def test_views_first(self):
        text = "view b\n1\nend\nview a\n.\n0\nend\nlink b a -9 0 -10\n\nview c\n999 .\nend\nlink c a 1 99 999"
        shown = "view b\n1\nend\nview a\n.\n0\nend\nview c\n999 .\nend\nlink b a -9 0 -10\nlink c a 1 99 999\n"
        self.assertEqual(show_album(album_of(text)), shown)

    def test_there_and_back(self):
        album = Album()
        for number, name in enumerate(names_of(30)):
            rows = [[None if (x + y) % 3 == 0 else (x * 97 + y * 31 + number) % 1000 for x in range(12)] for y in range(12)]
            album.add_view((name, tuple(tuple(row[:number % 12 + 1]) for row in rows[:12 - number % 12])))
        for number in range(60):
            album.add_link((f"n{number % 30}", f"n{(number * 7 + 1) % 30}", number - 99, 99 - number, 999 - number * 33))
        text = show_album(album)
        self.check_read(text, album.views(), album.links())
        self.assertEqual(show_album(album_of(text)), text)

    def test_showing_changes_nothing(self):
        album = album_of(TEXT)
        show_album(album)
        self.assertEqual(album.names(), ["a", "b"])
        self.assertEqual(show_album(album), TEXT)

    def test_behind_changes(self):
        album = album_of(TEXT)
        album.remove_view("a")
        self.assertEqual(show_album(album), "view b\n4\nend\n")
        album.remove_view("b")
        self.assertEqual(show_album(album), "")


if __name__ == "__main__":
    unittest.main()

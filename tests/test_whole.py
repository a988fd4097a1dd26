"""The whole program: views that are cut from one drawn ground, with true links."""

import itertools
import random
import unittest

from laidviews.album import album_of, is_link, show_album
from laidviews.edits import Keeper
from laidviews.ground import gather, picture_of, values_at
from laidviews.judge import cell_paper, judges, judges_cell
from laidviews.laying import groups, keeps, lay
from laidviews.pictures import size
from laidviews.quilt import quilt, quilt_rows, shares, values
from laidviews.seam import cost
from laidviews.seam_judge import accepts_quilt
from laidviews.shifts import fits, link_of, overlap
from laidviews.sure import false_readings, least_cost, plain_ground, sure

from samples import album_with, names_of

WIDTH, HEIGHT = 14, 10


class Drawn:
    """A ground, and views that are cut from it at places (x, y, light), each linked with some view before it."""

    def __init__(self, seed, false=0, count=6):
        source = random.Random(seed)
        self.source = source
        self.ground = {(x, y): source.randint(200, 700) for y in range(HEIGHT) for x in range(WIDTH)}
        self.places = {}
        self.views = []
        for name in names_of(count):
            self.cut(name)
        self.links = []
        for at, name in enumerate(self.places):
            for other in source.sample(names_of(at), min(at, 2)):
                self.links.append(self.true_link(*source.sample([name, other], 2)))
        self.spoil(false)
        self.album = album_with(self.views, self.links)

    def cut(self, name):
        """Cut a view, some cells of which have no reading."""
        width, height = self.source.randint(5, 8), self.source.randint(4, 7)
        left, top = self.source.randint(0, WIDTH - width), self.source.randint(0, HEIGHT - height)
        light = self.source.randint(-150, 150)
        rows = []
        for y in range(top, top + height):
            row = [self.ground[x, y] + light for x in range(left, left + width)]
            rows.append(tuple(None if self.source.random() < 0.1 else reading for reading in row))
        self.places[name] = (left, top, light)
        self.views.append((name, tuple(rows)))

    def true_link(self, one, two):
        return (one, two, *[second - first for first, second in zip(self.places[one], self.places[two])])

    def spoil(self, many):
        """Make as many readings false, all in different views."""
        for at in self.source.sample(range(len(self.views)), many):
            name, rows = self.views[at]
            y = self.source.randrange(len(rows))
            x = self.source.choice([x for x, reading in enumerate(rows[y]) if reading is not None])
            row = (*rows[y][:x], rows[y][x] + self.source.choice([-9, 13]), *rows[y][x + 1:])
            self.views[at] = (name, (*rows[:y], row, *rows[y + 1:]))

    def seen_from(self, name):
        """The drawn ground as it is told if the view of this name lies at (0, 0) and has the light 0."""
        left, top, light = self.places[name]
        return {(x - left, y - top): value + light for (x, y), value in self.ground.items()}


class WholeCase(unittest.TestCase):
    def check_laid(self, drawn):
        """Check the laying of an album of true links, and return it."""
        answer = lay(drawn.album)
        first = drawn.places["n0"]
        places = {}
        for name, place in drawn.places.items():
            places[name] = (0, *[number - begin for number, begin in zip(place, first)])
        self.assertEqual(answer, ("laid", places))
        self.assertEqual(list(answer[1]), names_of(len(drawn.places)))
        self.assertTrue(judges(drawn.album, answer))
        self.assertTrue(all(keeps(answer[1], link) for link in drawn.links))
        return answer[1]

    def check_papers(self, ground, faults):
        """Check the papers of some cells; test_judge.py tries all cells of smaller grounds."""
        for cell in list(ground)[::5]:
            self.assertTrue(judges_cell(ground, faults, cell_paper(ground, faults, cell)))

    def check_grounds(self, drawn, album, laying):
        """Check that all cells of each group of an album of true readings are seen as they are drawn."""
        for names in groups(album):
            truth = drawn.seen_from(names[0])
            ground = gather(album, laying, album.index(names[0]))
            self.assertEqual(sure(ground, 0), {cell: truth[cell] for cell in ground})

    def layers_of(self, drawn, laying):
        return [(view[0], picture_of(view, laying[view[0]])) for view in drawn.views]


class TrueReadings(WholeCase):
    def test_the_ground_is_the_drawn_one(self):
        for seed in range(12):
            drawn = Drawn(seed)
            laying = self.check_laid(drawn)
            truth = drawn.seen_from("n0")
            ground = gather(drawn.album, laying, 0)
            for cell, pairs in ground.items():
                self.assertEqual(values_at(ground, cell), [truth[cell]])
                self.assertEqual([name for name, _ in pairs], sorted(name for name, _ in pairs))
            self.assertEqual(least_cost(ground), 0)
            self.assertEqual(plain_ground(ground), {cell: truth[cell] for cell in ground})
            self.assertEqual(list(sure(ground, 0).items()), [(cell, truth[cell]) for cell in ground])
            self.assertEqual(false_readings(ground, truth), [])

    def test_cells_that_several_views_tell(self):
        for seed in range(12):
            drawn = Drawn(seed)
            ground = gather(drawn.album, lay(drawn.album)[1], 0)
            for faults in range(4):
                many = [cell for cell, pairs in ground.items() if len(pairs) > faults]
                self.assertEqual(list(sure(ground, faults)), many)
                self.check_papers(ground, faults)

    def test_fits_find_the_true_links(self):
        found = 0
        for seed in range(12):
            drawn = Drawn(seed)
            for one, two in itertools.permutations(drawn.views, 2):
                link = drawn.true_link(one[0], two[0])
                many = len(overlap(one, two, *link[2:4]))
                if many >= 4:
                    told = fits(one, two, reach=14, errors=0, least=4)
                    # By chance alone four random readings never fit.
                    self.assertEqual(told, [(*link[2:], 0)])
                    self.assertEqual(link_of(one, two, told[0]), link)
                    self.assertTrue(is_link(link))
                    found += 1
        self.assertGreater(found, 50)

    def test_an_album_from_fits_alone(self):
        for seed in range(12):
            drawn = Drawn(seed)
            album = album_with(drawn.views, [])
            for one, two in itertools.combinations(drawn.views, 2):
                for fit in fits(one, two, reach=14, errors=0, least=4):
                    album.add_link(link_of(one, two, fit))
            kind, laying = lay(album)
            self.assertEqual(kind, "laid")
            self.assertTrue(judges(album, (kind, laying)))
            self.check_grounds(drawn, album, laying)

    def test_seams_cost_nothing(self):
        for seed in range(12):
            drawn = Drawn(seed)
            laying = self.check_laid(drawn)
            layers = self.layers_of(drawn, laying)
            lying, steps = quilt(layers)
            truth = drawn.seen_from("n0")
            ground = gather(drawn.album, laying, 0)
            self.assertEqual(list(values(lying).items()), [(cell, truth[cell]) for cell in ground])
            self.assertEqual([step[1] for step in steps], [0] * 5)
            self.assertTrue(accepts_quilt(layers, steps))
            self.assertEqual(sum(shares(lying).values()), len(ground))
            told = [value for row in quilt_rows(lying) for value in row if value is not None]
            self.assertEqual(told, [truth[cell] for cell in ground])

    def test_texts(self):
        for seed in range(4):
            drawn = Drawn(seed)
            album = album_of(show_album(drawn.album))
            self.assertEqual((album.views(), album.links()), (drawn.views, drawn.links))
            self.assertEqual(lay(album), lay(drawn.album))


class FalseReadings(WholeCase):
    def test_what_is_surely_seen_is_true(self):
        for seed, false in itertools.product(range(10), range(1, 5)):
            drawn = Drawn(seed, false)
            laying = self.check_laid(drawn)
            truth = drawn.seen_from("n0")
            ground = gather(drawn.album, laying, 0)
            self.assertEqual(len(false_readings(ground, truth)), false)
            self.assertLessEqual(least_cost(ground), false)
            for faults in (false, false + 1):
                seen = sure(ground, faults)
                self.assertEqual(seen, {cell: truth[cell] for cell in seen})
                self.check_papers(ground, faults)
                # A cell that is told oftener than there are false readings, and always alike, is seen.
                for cell, pairs in ground.items():
                    if len(pairs) > faults and len(values_at(ground, cell)) == 1:
                        self.assertIn(cell, seen)

    def test_too_few_false_readings_are_allowed(self):
        for seed in range(10):
            ground = gather(Drawn(seed, 4).album, lay(Drawn(seed, 4).album)[1], 0)
            least = least_cost(ground)
            self.assertGreater(least, 0)
            for faults in range(least):
                self.assertIsNone(sure(ground, faults))
                self.assertTrue(judges_cell(ground, faults, ("none",)))
            self.assertFalse(judges_cell(ground, least, ("none",)))

    def test_fits_with_errors(self):
        for seed in range(10):
            drawn = Drawn(seed, 3)
            for one, two in itertools.permutations(drawn.views, 2):
                link = drawn.true_link(one[0], two[0])
                differences = [difference for _, _, difference in overlap(one, two, *link[2:4])]
                wrong = sum(difference != link[4] for difference in differences)
                # Each of both views has at most one false reading.
                self.assertLessEqual(wrong, 2)
                if len(differences) >= 7:
                    self.assertEqual(fits(one, two, reach=14, errors=2, least=7), [(*link[2:], wrong)])

    def test_quilts(self):
        for seed in range(10):
            drawn = Drawn(seed, 4)
            laying = self.check_laid(drawn)
            layers = self.layers_of(drawn, laying)
            ground = gather(drawn.album, laying, 0)
            lying, steps = quilt(layers)
            self.assertTrue(accepts_quilt(layers, steps))
            self.assertEqual(list(lying), list(ground))
            for cell, pair in lying.items():
                self.assertIn(pair, ground[cell])
            self.check_costs(layers, steps)

    def check_costs(self, layers, steps):
        """Check that no seam costs more than to leave what lies as it is, or to show all of the picture over it."""
        for at, (_, price, _) in enumerate(steps):
            base, over = values(quilt(layers[:at + 1])[0]), layers[at + 1][1]
            for shown in (0, 1):
                self.assertLessEqual(price, cost(base, over, {cell: shown for cell in over if cell in base}))


class Changes(WholeCase):
    def album_without(self, album, name):
        """What is left of an album without a view, made from nothing."""
        views = [view for view in album.views() if view[0] != name]
        return album_with(views, [link for link in album.links() if name not in link[:2]])

    def check_keeper(self, keeper, album):
        self.assertEqual(show_album(keeper.album()), show_album(album))
        self.assertEqual(keeper.answer(), lay(album))
        self.assertEqual(list(keeper.answer()[1]), list(lay(album)[1]))
        self.assertTrue(judges(album, keeper.answer()))

    def test_a_view_taken(self):
        for seed in range(12):
            for name in names_of(6):
                drawn = Drawn(seed)
                keeper = Keeper(drawn.album)
                keeper.take_view(name)
                self.check_keeper(keeper, self.album_without(drawn.album, name))

    def test_all_views_taken(self):
        for seed in range(12):
            drawn = Drawn(seed)
            keeper = Keeper(drawn.album)
            album = drawn.album
            for name in drawn.source.sample(names_of(6), 6):
                keeper.take_view(name)
                album = self.album_without(album, name)
                self.check_keeper(keeper, album)
                self.check_grounds(drawn, album, keeper.answer()[1])

    def test_a_false_link(self):
        for seed in range(12):
            drawn = Drawn(seed)
            keeper = Keeper(drawn.album)
            one, two, dx, dy, light = drawn.source.choice(drawn.links)
            keeper.put_link((one, two, dx, dy, light + 1))
            kind, ring = keeper.answer()
            self.assertEqual(kind, "ring")
            self.assertEqual(len(ring), 2)
            self.assertTrue(judges(keeper.album(), (kind, ring)))
            self.assertFalse(judges(drawn.album, (kind, ring)))
            self.assertFalse(judges(keeper.album(), lay(drawn.album)))
            keeper.take_link(len(drawn.links))
            self.check_keeper(keeper, drawn.album)

    def test_sizes(self):
        for view in Drawn(1).views:
            width, height = size(view)
            self.assertTrue(5 <= width <= 8 and 4 <= height <= 7)


if __name__ == "__main__":
    unittest.main()

"""[26]: where a spot lies among plane paths."""

import unittest
from random import Random

from bent_samples import SHEARS, gone_back, sheared, some_paths
from cornerlines.asks import where
from cornerlines.lands import lands_of
from cornerlines.paths import drawn
from cornerlines.spots import spot_of
from land_reference import where_by
from land_samples import BOX, PLANES, long_grid, long_lines, nested, square
from samples import DRAWINGS, GRAINS, MILLION
from things import keeps

PAIR = BOX + square(2, 2, 6) + (((4, 4), (5, 7)), ((3, 7),), ((20, 5),))


class WhereTest(unittest.TestCase):
    def check(self, paths, grain, spot):
        told = keeps(self, where, paths, grain, spot)
        self.assertEqual(told, where_by(paths, grain, spot), (paths, grain, spot))
        self.assertEqual(where(gone_back(paths)[::-1], grain, spot), told)
        return told

    def tells(self, told, paths, *place):
        """The place by the grain 1, and the same place by others."""
        n, m, d = spot = spot_of(*place)
        self.assertEqual(self.check(paths, 1, spot), told)
        for grain in (2, 3, 10, 1000):
            self.assertEqual(self.check(paths, grain, spot_of(n * grain, m * grain, d)), told)

    def test_no_paths(self):
        self.tells(("land", 0), (), 0, 0, 1)
        self.tells(("land", 0), (), 7, -9, 13)

    def test_at_corners(self):
        for corner in ((0, 0), (10, 0), (10, 10), (0, 10), (2, 2), (8, 8), (4, 4), (5, 7), (3, 7), (20, 5)):
            self.tells(("corner", corner), PAIR, *corner, 1)

    def test_whole_places_that_are_no_corners(self):
        self.tells(("land", 2), PAIR, 4, 5, 1)
        self.tells(("link", ((0, 0), (10, 0))), PAIR, 3, 0, 1)

    def test_on_links(self):
        self.tells(("link", ((0, 0), (10, 0))), PAIR, 1, 0, 2)
        self.tells(("link", ((10, 0), (10, 10))), PAIR, 20, 19, 2)
        self.tells(("link", ((0, 10), (10, 10))), PAIR, 99, 100, 10)
        self.tells(("link", ((4, 4), (5, 7))), PAIR, 9, 11, 2)
        self.tells(("link", ((4, 4), (5, 7))), PAIR, 13, 15, 3)
        self.tells(("link", ((0, 9), (4, 0))), (((4, 0), (0, 9)),), 4, 18, 3)

    def test_beyond_the_ends_of_links(self):
        self.tells(("land", 0), PAIR, -1, 0, 2)
        self.tells(("land", 0), PAIR, 21, 0, 2)
        self.tells(("land", 2), PAIR, 11, 15, 3)
        self.tells(("land", 2), PAIR, 16, 22, 3)

    def test_in_lands(self):
        self.tells(("land", 0), PAIR, -1, 5, 1)
        self.tells(("land", 0), PAIR, 41, 10, 2)
        self.tells(("land", 1), PAIR, 1, 1, 1)
        self.tells(("land", 1), PAIR, 9, 1, 1)
        self.tells(("land", 2), PAIR, 7, 3, 1)
        self.assertEqual([land[0][:1] for land in lands_of(PAIR)], [(), ((0, 0),), ((2, 2),)])

    def test_beside_dots(self):
        self.tells(("land", 2), PAIR, 3001, 7000, 1000)
        self.tells(("land", 2), PAIR, 3000, 6999, 1000)
        self.tells(("land", 0), PAIR, 19999, 5000, 1000)
        self.tells(("corner", (3, 7)), (((3, 7),),), 3, 7, 1)
        self.tells(("land", 0), (((3, 7),),), 7, 15, 2)

    def test_lands_within_lands(self):
        paths = nested(6, 20) + (((0, 0),),)
        for k in range(6):
            self.tells(("land", k + 1), paths, 2 * k - 39, 0, 2)
            self.tells(("land", k + 1), paths, 0, 39 - 2 * k, 2)
        self.tells(("land", 0), paths, -41, 0, 2)
        self.tells(("land", 6), paths, 1, 1, 1)

    def test_just_beside_links(self):
        near = MILLION
        for x, y in ((5 * near, 1), (5 * near, -1)):
            self.tells(("land", int(y > 0)), BOX, x, y, near)
            self.tells(("land", int(y > 0)), BOX, y, x, near)
            self.tells(("land", int(y < 0)), BOX, x, 10 * near + y, near)
        # Between two corners far from one another, on a link that is steep or flat.
        far = ((-MILLION, -MILLION), (MILLION, MILLION - 1), (MILLION, MILLION))
        paths = (far[:2], far[1:], (far[0], far[2]))
        self.tells(("link", (far[0], far[2])), paths, 0, 0, 1)
        self.tells(("link", (far[0], far[1])), paths, 0, -1, 2)
        self.tells(("land", 1), paths, 0, -1, 3)
        self.tells(("land", 0), paths, 0, -2, 3)
        self.tells(("land", 0), paths, 0, 1, MILLION)

    def test_by_any_grain(self):
        # The spot's numbers are parted by the grain, then it lies in cells.
        self.assertEqual(self.check(BOX, 10, (100, 100, 1)), ("corner", (10, 10)))
        self.assertEqual(self.check(BOX, 10, (99, 99, 1)), ("land", 1))
        self.assertEqual(self.check(BOX, 10, (101, 99, 1)), ("land", 0))
        self.assertEqual(self.check(BOX, 10, (10, 0, 1)), ("link", ((0, 0), (10, 0))))
        self.assertEqual(self.check(BOX, 1000, (1, 1, 1)), ("land", 1))
        self.assertEqual(self.check(BOX, 3, (30, 61, 2)), ("land", 0))
        self.assertEqual(self.check(BOX, 3, (60, 59, 2)), ("link", ((10, 0), (10, 10))))

    def test_far_off_and_great(self):
        for spot in ((MILLION, MILLION, 1), (-MILLION, 1, 3), (10 ** 39, 1, 10 ** 38 - 1), (10 ** 39, 10 ** 39 - 1, 10 ** 38)):
            self.check(PAIR, 1, spot)
            self.check(PAIR, 1000, spot)
        self.assertEqual(where(BOX, 1, (10 ** 39 - 1, 10 ** 38, 10 ** 38)), ("land", 1))
        self.assertEqual(where(BOX, 1, (10 ** 39 + 1, 10 ** 38, 10 ** 38)), ("land", 0))

    def test_everywhere_about_planes(self):
        for paths, walks, lands in PLANES:
            for i in range(-3, 26):
                for j in range(-3, 26, 2):
                    self.check(paths, 2, spot_of(i, j, 1))

    def test_any_paths_of_one_plane(self):
        for seed in range(12):
            chance = Random(seed)
            paths = some_paths(5, 6, 14, seed)
            moved = sheared(paths, SHEARS[seed % len(SHEARS)])
            (i, j), (k, l) = moved[0][0], moved[-1][-1]
            for step in range(20):
                self.check(paths, 3, spot_of(chance.randint(-3, 18), chance.randint(-3, 18), chance.randint(1, 3)))
                self.check(moved, 1, spot_of(i * step + k * (20 - step), j * step + l * (20 - step), 20))

    def test_drawings(self):
        for lines in DRAWINGS:
            for grain in GRAINS:
                paths = drawn(grain, lines)[1]
                for x in range(-20, 90, 25):
                    for y in range(-20, 90, 15):
                        self.check(paths, grain, (x, y, 1))

    def test_great_drawings(self):
        chance = Random(5)
        paths = drawn(1, long_lines(12, MILLION, 2))[1]
        for step in range(10):
            self.check(paths, 1, spot_of(chance.randint(-MILLION, MILLION), chance.randint(-MILLION, MILLION), 1))
        paths = long_grid(33898, -MILLION)
        told = [self.check(paths, 1, (x, 5 * x, 7)) for x in range(-MILLION, MILLION, 300007) if x % 7]
        self.assertGreater(len(set(told)), 3)


if __name__ == "__main__":
    unittest.main()

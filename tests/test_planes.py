"""[14]: whether paths are plane; of [3] what speaks of links."""

import unittest
from itertools import combinations
from random import Random

from bent_reference import trouble_by
from bent_samples import SHEARS, gone_back, sheared, some_paths
from cornerlines.paths import drawn
from cornerlines.planes import trouble_of
from samples import DRAWINGS, GRAINS, MILLION, some_lines
from things import keeps

FLAT = ((0, 0), (4, 0))


def any_paths(many, long, far, seed):
    """Paths that are mostly not plane."""
    chance = Random(seed)
    corners = [(i, j) for i in range(-far, far + 1) for j in range(-far, far + 1)]
    return tuple(tuple(chance.sample(corners, chance.randint(1, long))) for k in range(many))


class TroubleTest(unittest.TestCase):
    def tells(self, told, *paths):
        """Whatever order they stand in, and which way they go."""
        self.assertEqual(keeps(self, trouble_of, paths), told)
        self.assertEqual(trouble_by(paths), told)
        for other in (paths[::-1], gone_back(paths), paths * 2, paths + gone_back(paths)):
            self.assertEqual(trouble_of(other), told)

    def test_no_paths(self):
        self.tells(None)

    def test_plane_paths(self):
        self.tells(None, ((0, 0),))
        self.tells(None, ((0, 0),), ((0, 0),), ((1, 0),))
        self.tells(None, FLAT)
        self.tells(None, FLAT, ((4, 0), (0, 1)), ((0, 1), (0, 0)))
        self.tells(None, FLAT, ((4, 0), (8, 0)))
        self.tells(None, FLAT, ((5, 0), (8, 0)), ((0, -1), (4, -1)), ((-1, 0),), ((5, 0),), ((0, 1),))
        self.tells(None, ((0, 0), (2, 2), (4, 0)), ((0, 4), (2, 2), (4, 4)))
        self.tells(None, ((0, 0), (1, 3)), ((1, 3), (0, 1)), ((0, 1), (-1, 3)))

    def test_alike_paths(self):
        self.tells(None, FLAT, FLAT, FLAT[::-1])
        self.tells(None, ((0, 0), (2, 2), (4, 0)), ((4, 0), (2, 2), (0, 0)))

    def test_a_corner_on_a_link(self):
        self.tells(("on", (2, 0), FLAT), FLAT, ((2, 0), (2, 5)))
        self.tells(("on", (2, 0), FLAT), FLAT, ((2, 5), (2, 0)))
        self.tells(("on", (1, 0), FLAT), FLAT, ((1, 5), (1, 0), (0, -3)))
        self.tells(("on", (3, 1), ((0, 0), (6, 2))), ((6, 2), (0, 0), (3, 1)))
        self.tells(("on", (0, 5), ((0, 4), (0, 6))), ((0, 6), (0, 4)), ((0, 5), (-1, 5)))

    def test_single_corners_on_links(self):
        self.tells(("on", (3, 0), FLAT), FLAT, ((3, 0),))
        self.tells(None, FLAT, ((4, 0),), ((0, 0),))
        self.tells(("on", (1, 2), ((0, 4), (2, 0))), ((1, 2),), ((2, 0), (0, 4)))

    def test_links_along_one_another(self):
        self.tells(("on", (2, 0), FLAT), FLAT, ((2, 0), (6, 0)))
        self.tells(("on", (1, 0), FLAT), FLAT, ((1, 0), (3, 0)))
        self.tells(("on", (1, 0), FLAT), FLAT, ((0, 0), (1, 0)))
        self.tells(("on", (4, 0), ((0, 0), (7, 0))), FLAT, ((7, 0), (0, 0)))
        self.tells(("on", (0, 0), ((-1, -1), (1, 1))), ((-1, -1), (1, 1)), ((2, 2), (0, 0)))

    def test_links_that_cross(self):
        rising, falling = ((0, 0), (2, 2)), ((0, 2), (2, 0))
        self.tells(("cross", rising, falling), rising, falling)
        self.tells(("cross", rising, ((0, 1), (1, 0))), rising, ((1, 0), (0, 1)))
        self.tells(("cross", ((-1, 0), (3, 1)), ((0, 4), (1, -4))), ((0, 4), (1, -4)), ((3, 1), (-1, 0)))
        self.tells(("cross", ((-1, 2), (1, 3)), ((0, 0), (0, 4))), ((0, 4), (0, 0)), ((-1, 2), (1, 3)))

    def test_the_first_by_corners_then_links(self):
        one, other, low = ((0, 0), (0, 4)), ((0, 3), (0, 9)), ((-2, 0), (2, 0))
        self.tells(("on", (0, 0), low), one, other, low)
        self.tells(("on", (0, 3), one), one, other)
        self.tells(("on", (2, 2), ((0, 0), (4, 4))), ((0, 0), (4, 4)), ((0, 4), (4, 0)), ((1, 2), (3, 2)), ((2, 2),))
        self.tells(("on", (2, 2), ((0, 4), (4, 0))), ((0, 4), (4, 0)), ((1, 2), (3, 2)), ((2, 2), (2, 3)))

    def test_on_is_ahead_of_cross(self):
        cross = (((-9, 0), (-7, 2)), ((-9, 2), (-7, 0)))
        self.tells(("cross", *cross), *cross)
        self.tells(("on", (3, 0), FLAT), *cross, FLAT, ((3, 0),))

    def test_the_first_two_that_cross(self):
        lines = (((0, 0), (9, 8)), ((0, 8), (9, 0)), ((1, -5), (2, 9)))
        self.tells(("cross", lines[0], lines[1]), *lines)
        self.tells(("cross", lines[0], lines[2]), lines[0], ((0, 8), (1, 9)), lines[2])
        self.tells(("cross", lines[1], lines[2]), lines[1], lines[2])
        self.tells(("cross", ((0, 0), (9, 1)), ((5, -3), (5, 3))), ((5, -3), (5, 3)), ((0, 0), (9, 1)), ((4, 5), (6, 2)))

    def test_within_one_path(self):
        self.tells(("cross", ((0, 0), (2, 2)), ((0, 1), (2, 0))), ((0, 0), (2, 2), (2, 0), (0, 1)))
        self.tells(("on", (1, 1), ((0, 0), (2, 2))), ((0, 0), (2, 2), (2, 0), (1, 1)))

    def test_at_the_bounds(self):
        rising, falling = ((-MILLION, -MILLION), (MILLION, MILLION)), ((-MILLION, MILLION), (MILLION, -MILLION))
        self.tells(("cross", rising, falling), rising, falling)
        self.tells(("on", (0, 0), rising), rising, falling, ((0, 0),))
        self.tells(None, rising, ((-MILLION, 1 - MILLION), (MILLION - 1, MILLION)))
        self.tells(None, ((-MILLION, 0), (MILLION, 1)), ((0, 0),), ((0, 1),))
        self.tells(("cross", ((-MILLION, 0), (MILLION, 1)), ((0, 0), (0, 1))), ((-MILLION, 0), (MILLION, 1)), ((0, 0), (0, 1)))

    def test_all_small_pairs(self):
        corners = [(i, j) for i in range(4) for j in range(3)]
        links = list(combinations(corners, 2))
        for one in links[::5]:
            for other in links:
                self.assertEqual(trouble_of((one, other)), trouble_by((one, other)), (one, other))
        for one in links:
            for corner in corners:
                self.assertEqual(trouble_of((one, (corner,))), trouble_by((one, (corner,))))

    def test_any_small_paths(self):
        told = {}
        for seed in range(300):
            paths = any_paths(3, 4, 4, seed)
            trouble = trouble_of(paths)
            self.assertEqual(trouble, trouble_by(paths), paths)
            word = trouble and trouble[0]
            told[word] = told.get(word, 0) + 1
            for other in (paths[::-1], gone_back(paths), paths * 2):
                self.assertEqual(trouble_of(other), trouble)
        self.assertGreater(min(told["on"], told["cross"], told[None]), 20)

    def test_paths_of_one_plane(self):
        for seed in range(20):
            for rows in SHEARS:
                self.assertIsNone(trouble_of(sheared(some_paths(12, 7, 20, seed), rows)))

    def test_drawings(self):
        for lines in DRAWINGS:
            for grain in GRAINS:
                corners, paths = drawn(grain, lines)
                self.tells(None, *paths)

    def test_drawings_of_twelve_lines(self):
        for seed in range(12):
            for grain, far in ((1, 3), (2, 7), (10, 40), (10, 200), (1000, MILLION)):
                corners, paths = drawn(grain, tuple(some_lines(12, far, seed)))
                self.assertIsNone(trouble_of(paths))

    def test_many(self):
        rows = tuple(tuple((7 * i, 9 * j + i % 3) for i in range(20)) for j in range(12))
        self.assertIsNone(keeps(self, trouble_of, rows))
        crossed = rows[:11] + (((5, -9), (6, 200)),)
        self.assertEqual(trouble_of(crossed), trouble_by(crossed))
        long = (tuple((i, 40 * (i % 2)) for i in range(60)),)
        self.assertIsNone(trouble_of(long))
        self.assertEqual(trouble_of(long + (((0, 20), (70, 20)),)), ("cross", ((0, 0), (1, 40)), ((0, 20), (70, 20))))
        (last,) = any_paths(1, 60, 20, 4)
        self.assertEqual(trouble_of((last,)), trouble_by((last,)))


if __name__ == "__main__":
    unittest.main()

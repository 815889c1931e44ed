"""[13]: the links of paths."""

import unittest

from bent_reference import links_by
from bent_samples import along_a_row, gone_back, some_paths
from cornerlines.links import links_of
from cornerlines.paths import drawn
from samples import DRAWINGS, GRAINS, MILLION
from things import keeps


class LinksTest(unittest.TestCase):
    def tells(self, told, paths):
        self.assertEqual(keeps(self, links_of, paths), told)
        self.assertEqual(links_of(gone_back(paths)), told)
        self.assertEqual(links_of(paths[::-1]), told)

    def test_of_none(self):
        self.tells((), ())

    def test_of_single_corners(self):
        self.tells((), (((0, 0),),))
        self.tells((), (((0, 0),), ((5, 5),), ((0, 0),)))

    def test_one_path(self):
        self.tells((((0, 0), (1, 0)),), (((0, 0), (1, 0)),))
        self.tells((((0, 0), (1, 0)),), (((1, 0), (0, 0)),))
        self.tells((((-1, 9), (0, 0)), ((0, 0), (0, 1)), ((0, 1), (1, -3))), (((-1, 9), (0, 0), (0, 1), (1, -3)),))

    def test_the_lesser_corner_is_first(self):
        self.tells((((0, 5), (1, -5)),), (((1, -5), (0, 5)),))
        self.tells((((2, -5), (2, 5)),), (((2, 5), (2, -5)),))
        self.tells((((-10, 0), (-9, 0)),), (((-9, 0), (-10, 0)),))
        self.tells((((9, 0), (10, 0)),), (((10, 0), (9, 0)),))

    def test_rising_and_each_once(self):
        paths = (((4, 0), (2, 0), (0, 0)), ((2, 0), (2, 2)), ((0, 0), (2, 0), (2, 2)), ((7, 7),))
        self.tells((((0, 0), (2, 0)), ((2, 0), (2, 2)), ((2, 0), (4, 0))), paths)

    def test_alike_paths(self):
        for paths in (some_paths(3, 5, 9, seed) for seed in range(9)):
            self.tells(links_by(paths), paths)
            self.assertEqual(links_of(paths * 3), links_of(paths))
            self.assertEqual(links_of(paths + gone_back(paths)), links_of(paths))

    def test_links_that_cross(self):
        self.tells((((0, 0), (2, 2)), ((0, 2), (2, 0))), (((0, 0), (2, 2)), ((2, 0), (0, 2))))

    def test_at_the_bounds(self):
        least, greatest = (-MILLION, -MILLION), (MILLION, MILLION)
        self.tells(((least, greatest),), ((greatest, least),))
        self.tells((((-MILLION, MILLION), (MILLION, -MILLION)),), (((MILLION, -MILLION), (-MILLION, MILLION)),))

    def test_drawings(self):
        for lines in DRAWINGS:
            for grain in GRAINS:
                corners, paths = drawn(grain, lines)
                self.tells(links_by(paths), paths)

    def test_many(self):
        paths = tuple(tuple((i, j) for i in range(60)) for j in range(12))
        self.assertEqual(len(keeps(self, links_of, paths)), 12 * 59)
        self.assertEqual(links_of(paths), links_by(paths))
        self.assertEqual(links_of((along_a_row(60),)), links_by((along_a_row(60),)))


if __name__ == "__main__":
    unittest.main()

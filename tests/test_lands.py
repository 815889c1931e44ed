"""[22]: the lands that plane paths part from one another."""

import unittest

from bent_reference import links_by
from bent_samples import SHEARS, gone_back, sheared
from cornerlines.lands import land_area, lands_of
from cornerlines.paths import drawn
from cornerlines.settling import settled
from cornerlines.walks import walk_area, walks_of
from land_reference import bent_lands_by, land_area_by, parts_by
from land_samples import BOX, PLANES, any_planes, grid, long_grid, nested, square, twelve_lines
from samples import DRAWINGS, GRAINS, MILLION, turned_round
from things import keeps

INSIDE, OUTSIDE = ((0, 0), (10, 0), (10, 10), (0, 10)), ((0, 0), (0, 10), (10, 10), (10, 0))


def ringed(i, j, wide):
    """(the border, the rim) of a square alone."""
    far, high = i + wide, j + wide
    return ((i, j), (far, j), (far, high), (i, high)), ((i, j), (i, high), (far, high), (far, j))


class LandsCase(unittest.TestCase):
    def check(self, paths):
        """What the document says of all lands, and that it is what is told slowly."""
        lands = keeps(self, lands_of, paths)
        self.assertEqual(lands, bent_lands_by(paths))
        corners, links = {corner for path in paths for corner in path}, links_by(paths)
        parts = {id(part) for part in parts_by(links, corners).values()}
        self.assertEqual(len(corners) - len(links) + len(lands), 1 + len(parts))
        # Each walk in one land, and each corner without links.
        walks = [walk for border, rims, dots in lands for walk in (border, *rims) if walk]
        self.assertEqual(sorted(walks), sorted(walks_of(paths)))
        linked = {corner for link in links for corner in link}
        self.assertEqual(sorted(dot for land in lands for dot in land[2]), sorted(corners - linked))
        self.assertEqual([land[0] for land in lands], sorted(land[0] for land in lands))
        self.assertEqual(lands[0][0], ())
        self.assertIsNone(land_area(lands[0]))
        for land in lands[1:]:
            self.assertGreater(land_area(land), 0)
            self.assertIs(type(land_area(land)), int)
            self.assertEqual(land_area(land), land_area_by(land))
        for land in lands:
            self.assertEqual((land[1], land[2]), (tuple(sorted(land[1])), tuple(sorted(land[2]))))
        within = -sum(walk_area(rim) for rim in lands[0][1])
        self.assertEqual(sum(land_area(land) for land in lands[1:]), within)
        return lands


class LandsTest(LandsCase):
    def tells(self, told, *paths):
        self.assertEqual(self.check(paths), told)
        for other in (paths[::-1], gone_back(paths), paths * 2, paths + gone_back(paths)):
            self.assertEqual(lands_of(other), told)

    def test_no_paths(self):
        self.tells((((), (), ()),))

    def test_dots(self):
        self.tells((((), (), ((0, 0),)),), ((0, 0),))
        self.tells((((), (), ((-2, 9), (0, 0), (0, 1))),), ((0, 1),), ((0, 0),), ((-2, 9),))

    def test_one_corner_of_another_path(self):
        # Linked by another path, it is no dot.
        self.tells((((), (((0, 0), (4, 1)),), ()),), ((0, 0),), ((0, 0), (4, 1)), ((4, 1),))

    def test_a_square(self):
        self.tells((((), (OUTSIDE,), ()), (INSIDE, (), ())), *BOX)
        self.assertEqual(land_area((INSIDE, (), ())), 200)
        self.assertIsNone(land_area(((), (OUTSIDE,), ())))

    def test_dots_within_and_without(self):
        dots = (((12, 4),), ((4, 4),), ((4, 2),), ((-1, 5),), ((5, -1),), ((5, 11),))
        self.tells((((), (OUTSIDE,), ((-1, 5), (5, -1), (5, 11), (12, 4))), (INSIDE, (), ((4, 2), (4, 4)))), *BOX, *dots)

    def test_a_square_within_a_square(self):
        border, rim = ringed(2, 2, 6)
        self.tells((((), (OUTSIDE,), ()), (INSIDE, (rim,), ()), (border, (), ())), *BOX, *square(2, 2, 6))
        self.assertEqual([land_area(land) for land in lands_of(BOX + square(2, 2, 6))[1:]], [128, 72])

    def test_right_in_its_border(self):
        # The innermost part and dot lie within both squares, and right in the lesser one.
        border, rim = ringed(2, 2, 6)
        link = ((4, 4), (5, 6))
        told = (((), (OUTSIDE,), ()), (INSIDE, (rim,), ((1, 9),)), (border, (link,), ((6, 4),)))
        self.tells(told, *BOX, *square(2, 2, 6), link, ((6, 4),), ((1, 9),))
        self.assertEqual([land_area(land) for land in told[1:]], [128, 72])

    def test_rims_rise(self):
        link, other, third = ((2, 7), (3, 2)), ((2, 8), (4, 8)), ((5, 1), (6, 1))
        self.tells((((), (OUTSIDE,), ()), (INSIDE, (link, other, third), ())), *BOX, third, other, link)

    def test_between_the_arms_of_a_part(self):
        arms = ((0, 9), (0, 0), (9, 0), (9, 9))
        walk = ((0, 0), (0, 9), (0, 0), (9, 0), (9, 9), (9, 0))
        self.tells((((), (walk, ((4, 4), (5, 5))), ((4, 8),)),), arms, ((4, 4), (5, 5)), ((4, 8),))

    def test_at_the_height_of_corners(self):
        # What is within doesn't hang on corners of the border that lie just beside it.
        ring = ((0, 0), (4, -4), (8, 0), (4, 4), (0, 0))
        paths = (ring[:3], ring[2:])
        inside = ((0, 0), (4, -4), (8, 0), (4, 4))
        outside = ((0, 0), (4, 4), (8, 0), (4, -4))
        dots = tuple(((i, j),) for i in range(-2, 11) for j in (-4, 0, 4) if (i, j) not in ring)
        told = (tuple(sorted(dot for dot, in dots if not (0 < dot[0] < 8 and dot[1] == 0))), tuple((i, 0) for i in range(1, 8)))
        self.tells((((), (outside,), told[0]), (inside, (), told[1])), *paths, *dots)

    def test_rims_at_the_height_of_corners(self):
        for j in range(-1, 12):
            for i in (-3, 3, 13):
                links = (((i, j), (i + 1, j)), ((i, j), (i, j + 1)))
                inside = i == 3 and 0 < j < 9
                if i != 3 or j not in (-1, 0, 9, 10):
                    lands = self.check(BOX + links)
                    self.assertEqual(len(lands[1][1]), int(inside))

    def test_planes(self):
        for paths, walks, many in PLANES:
            self.assertEqual(len(self.check(paths)), many, paths)
            for rows in SHEARS:
                self.assertEqual(len(self.check(sheared(paths, rows))), many, paths)

    def test_parts_within_one_another(self):
        for deep in (2, 6, 11):
            lands = self.check(nested(deep, 20) + (((0, 0),),))
            self.assertEqual([len(rims) for border, rims, dots in lands], [1] * deep + [0])
            self.assertEqual([len(dots) for border, rims, dots in lands], [0] * deep + [1])

    def test_any_paths_of_one_plane(self):
        for paths in any_planes():
            self.check(paths)

    def test_drawings(self):
        for lines in DRAWINGS:
            for grain in GRAINS:
                self.check(drawn(grain, lines)[1])
                self.assertEqual(lands_of(drawn(grain, turned_round(lines))[1]), lands_of(drawn(grain, lines)[1]))

    def test_twelve_lines(self):
        for grain, lines in twelve_lines():
            corners, paths = drawn(grain, lines)
            self.check(paths)
            self.check(settled(corners, paths))

    def test_grids(self):
        self.assertEqual(len(self.check(grid(5, 2, 0))), 17)
        paths = long_grid(33898, -MILLION)
        lands = self.check(paths)
        self.assertEqual([land_area(land) for land in lands[1:]], [2 * (9 * 33898) ** 2] * 25)
        self.check(paths[:10] + (((-MILLION, MILLION),), ((7, 7),)))


if __name__ == "__main__":
    unittest.main()

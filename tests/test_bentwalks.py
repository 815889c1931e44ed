"""[25]: what becomes of walks of knots; of [3] what speaks of the areas of lands."""

import unittest

from cornerlines.bentwalks import bent_walk
from cornerlines.lands import land_area, lands_of
from cornerlines.links import links_of
from cornerlines.paths import drawn
from cornerlines.sources import became
from cornerlines.spots import corner_at
from cornerlines.straights import straight_lands, straight_walks
from cornerlines.walks import walk_area
from land_reference import area_by, bent_walk_by
from land_samples import STRAIGHTS, grid_lines, long_lines, near_lines, some_drawings, square_lines
from samples import DRAWINGS, GRAINS, MILLION, turned_round
from things import keeps


class BentWalksCase(unittest.TestCase):
    def check(self, grain, lines):
        """Each walk of the lines told slowly, and the areas of lands."""
        paths = drawn(grain, lines)[1]
        links = links_of(paths)
        told = {}
        for walk in straight_walks(lines):
            bent = told[walk] = keeps(self, bent_walk, grain, lines, walk)
            self.assertEqual(bent, bent_walk_by(grain, lines, walk), (grain, lines, walk))
            self.assertEqual(bent[0], corner_at(grain, walk[0]))
            for one, other in zip(bent, bent[1:] + bent[:1]):
                self.assertTrue(len(bent) == 1 or tuple(sorted((one, other))) in links)
            self.assertEqual(bent_walk(grain, turned_round(lines), walk), bent)
            self.assertEqual(walk_area(bent), area_by(bent))
        lands, back = lands_of(paths), became(grain, lines)
        for (border, rims), numbers in list(zip(straight_lands(lines), back))[1:]:
            straight = sum(walk_area(told[walk]) for walk in (border, *rims))
            self.assertEqual(straight, sum(land_area(lands[number]) for number in numbers), (grain, lines))
            self.assertTrue(straight > 0 if numbers else straight == 0)
        return told


class BentWalksTest(BentWalksCase):
    """By the grain 10."""

    def tells(self, told, lines, walk):
        self.assertEqual(keeps(self, bent_walk, 10, lines, walk), told)
        self.assertIn(walk, straight_walks(lines))
        self.check(10, lines)

    def test_one_line(self):
        self.tells(((0, 0), (6, 3)), (((0, 0), (57, 33)),), ((0, 0, 1), (57, 33, 1)))
        lines = (((0, 0), (57, 33)), ((31, 19), (31, 60)))
        self.tells(((0, 0), (3, 2), (6, 3), (3, 2)), lines, ((0, 0, 1), (57, 33, 1)))

    def test_within_one_cell(self):
        self.tells(((0, 0),), (((0, 0), (3, 1)),), ((0, 0, 1), (3, 1, 1)))
        lines = (((0, 0), (3, 1)), ((3, 1), (1, 3)), ((1, 3), (0, 0)))
        self.tells(((0, 0),), lines, ((0, 0, 1), (3, 1, 1), (1, 3, 1)))

    def test_a_square(self):
        lines = square_lines(0, 0, 40)
        self.tells(((0, 0), (4, 0), (4, 4), (0, 4)), lines, ((0, 0, 1), (40, 0, 1), (40, 40, 1), (0, 40, 1)))
        self.tells(((0, 0), (0, 4), (4, 4), (4, 0)), lines, ((0, 0, 1), (0, 40, 1), (40, 40, 1), (40, 0, 1)))

    def test_from_its_first_knot_on(self):
        # Of the bent walk another half than the first one may be the least.
        lines = (((4, 0), (4, 40)), ((4, 40), (-3, 20)), ((-3, 20), (4, 0)))
        walk = straight_walks(lines)[0]
        self.assertEqual(walk, ((-3, 20, 1), (4, 0, 1), (4, 40, 1)))
        self.tells(((0, 2), (0, 0), (0, 2), (0, 4)), lines, walk)
        self.assertEqual(walk_area(bent_walk(10, lines, walk)), 0)

    def test_alike_neighbours_once(self):
        # Three knots in one cell, in the middle of the walk and where it closes.
        lines = (((0, 0), (40, 0)), ((40, 0), (43, 2)), ((43, 2), (41, 4)), ((41, 4), (0, 40)), ((0, 40), (0, 0)))
        walk = ((0, 0, 1), (40, 0, 1), (43, 2, 1), (41, 4, 1), (0, 40, 1))
        self.tells(((0, 0), (4, 0), (0, 4)), lines, walk)
        lines = (((0, 0), (40, 0)), ((40, 0), (0, 40)), ((0, 40), (1, 3)), ((1, 3), (0, 0)))
        self.tells(((0, 0), (4, 0), (0, 4)), lines, ((0, 0, 1), (40, 0, 1), (0, 40, 1), (1, 3, 1)))

    def test_there_and_back_along_one_path(self):
        lines = (((0, 0), (90, 3)), ((90, 3), (0, 4)), ((0, 4), (0, 0)))
        self.tells(((0, 0), (9, 0)), lines, ((0, 0, 1), (90, 3, 1), (0, 4, 1)))

    def test_through_corners_between_knots(self):
        # An end beside one side bends it, though no knot lies there.
        lines = square_lines(0, 0, 100) + (((50, 3), (50, 60)),)
        walk = ((0, 0, 1), (100, 0, 1), (100, 100, 1), (0, 100, 1))
        self.tells(((0, 0), (5, 0), (10, 0), (10, 10), (0, 10)), lines, walk)

    def test_along_one_another(self):
        lines = square_lines(0, 0, 40) + (((-20, 0), (20, 0)), ((40, 40), (40, 10)))
        walk = ((0, 0, 1), (20, 0, 1), (40, 0, 1), (40, 10, 1), (40, 40, 1), (0, 40, 1))
        self.tells(((0, 0), (2, 0), (4, 0), (4, 1), (4, 4), (0, 4)), lines, walk)

    def test_lands_that_close(self):
        # One straight land becomes two that meet at a corner.
        lines = (((0, 0), (100, 2)), ((100, 2), (0, 9)), ((0, 9), (0, 0)), ((30, -15), (31, 5)))
        told = self.check(10, lines)
        lands = lands_of(drawn(10, lines)[1])
        self.assertEqual(became(10, lines), ((0,), (1, 2)))
        self.assertEqual(max(walk_area(bent) for bent in told.values()), sum(land_area(land) for land in lands[1:]))

    def test_lands_with_rims(self):
        lines = square_lines(0, 0, 100) + square_lines(21, 18, 60) + (((40, 40), (52, 44)),)
        self.check(10, lines)
        self.check(3, lines)
        self.check(30, lines)
        # The rim is drawn to the border.
        self.check(40, lines)
        self.check(200, lines)


class DrawingsTest(BentWalksCase):
    def test_drawings(self):
        for lines in DRAWINGS:
            for grain in GRAINS:
                self.check(grain, lines)
        for lines, many in STRAIGHTS:
            for grain in GRAINS:
                self.check(grain, lines)

    def test_any_lines(self):
        for grain, lines in some_drawings():
            self.check(grain, lines)

    def test_twelve_lines(self):
        for grain, far in ((2, 8), (10, 40), (1000, MILLION), (1, MILLION)):
            self.check(grain, long_lines(12, far, 3))
            self.check(grain, near_lines(12, far, 3))
        self.check(1, grid_lines(6, MILLION))
        self.check(1000, grid_lines(6, 2000))


if __name__ == "__main__":
    unittest.main()

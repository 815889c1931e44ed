"""[24]: which straight land each bent land comes of; of [3] what speaks of that."""

import unittest

from cornerlines.lands import lands_of
from cornerlines.leaving import leavings
from cornerlines.paths import drawn
from cornerlines.sources import became, sources
from cornerlines.straights import straight_lands
from land_reference import all_sources_by, last_by, sides_of_rim
from land_samples import STRAIGHTS, grid_lines, long_lines, some_drawings, square_lines
from reference import turned
from samples import DRAWINGS, GRAINS, MILLION, turned_round
from things import keeps


class SourcesCase(unittest.TestCase):
    def check(self, grain, lines):
        """That it is what any half of each border tells, told slowly."""
        told, back = keeps(self, sources, grain, lines), keeps(self, became, grain, lines)
        bent, straight = lands_of(drawn(grain, lines)[1]), straight_lands(lines)
        self.assertEqual([{number} for number in told], all_sources_by(grain, lines), (grain, lines))
        self.assertEqual((len(told), len(back)), (len(bent), len(straight)))
        self.assertEqual(told[0], 0)
        for k, numbers in enumerate(back):
            self.assertEqual(numbers, tuple(number for number, source in enumerate(told) if source == k))
        self.assertEqual(sorted(number for numbers in back for number in numbers), list(range(len(bent))))
        self.assertEqual(sources(grain, turned_round(lines)), told)
        self.assertEqual(became(grain, lines[2:] + lines[:2]), back)
        return told, back


class SourcesTest(SourcesCase):
    """By the grain 10, mostly of what leaves the cell of the corner (0, 0), which is from -5 to 5."""

    def tells(self, told, back, *lines):
        self.assertEqual(self.check(10, lines), (told, back))

    def test_no_lines(self):
        self.tells((0,), ((0,),))

    def test_no_lands(self):
        self.tells((0,), ((0,),), ((0, 0), (57, 33)))
        self.tells((0,), ((0,),), ((0, 0), (40, 40)), ((0, 40), (40, 0)))
        # One line in one cell.
        self.tells((0,), ((0,),), ((0, 0), (1, 0)))

    def test_one_land(self):
        self.tells((0, 1), ((0,), (1,)), *square_lines(0, 0, 40))
        self.tells((0, 1, 2), ((0,), (1,), (2,)), *square_lines(0, 0, 100), *square_lines(20, 20, 60))

    def test_numbers_of_both(self):
        # The lower one of the straight lands is the first, the lower one of the bent lands is the last.
        lines = square_lines(0, 23, 40) + square_lines(-4, 100, 40)
        straight = [land[0][0] for land in straight_lands(lines)[1:]]
        bent = [land[0][0] for land in lands_of(drawn(10, lines)[1])[1:]]
        self.assertEqual((straight, bent), ([(-4, 100, 1), (0, 23, 1)], [(0, 2), (0, 10)]))
        self.tells((0, 2, 1), ((0,), (2,), (1,)), *lines)

    def test_lands_that_vanish(self):
        # Within one cell, along one path, and between two corners.
        self.tells((0,), ((0,), ()), ((0, 0), (3, 1)), ((3, 1), (1, 3)), ((1, 3), (0, 0)))
        self.tells((0,), ((0,), ()), ((0, 0), (90, 3)), ((90, 3), (0, 4)), ((0, 4), (0, 0)))
        self.tells((0,), ((0,), (), ()), ((-4, 0), (44, 1)), ((-4, 1), (44, 0)), ((-4, -1), (-4, 4)), ((44, -1), (44, 4)))

    def test_a_land_that_becomes_several(self):
        # A narrow land, at whose middle an end draws both its sides to one corner.
        narrow = (((0, 0), (100, 2)), ((100, 2), (0, 9)), ((0, 9), (0, 0)))
        self.tells((0, 1, 1), ((0,), (1, 2)), *narrow, ((30, -15), (31, 5)))
        narrow = (((0, 0), (100, 14)), ((0, 6), (100, 20)), ((0, 0), (0, 6)), ((100, 14), (100, 20)))
        self.tells((0, 1, 1), ((0,), (1, 2)), *narrow, ((50, -30), (50, 10)))

    def test_points_that_lie_in_the_cell_or_not(self):
        # Two lines leave at one point, on each of the four sides, and another one at a point beside it.
        for x, y in ((40, 0), (0, 40), (-40, 0), (0, -40)):
            ends = ((x + y // 8, y - x // 8), (x, y), (x - y // 8, y + x // 8))
            for start in ((0, 0), (2, 2), (-3, 1), (1, -4)):
                lines = tuple((start, end) for end in ends) + ((ends[0], ends[1]), (ends[1], ends[2]), (ends[0], (3 * x, 3 * y)))
                self.check(10, lines)
                self.check(10, lines + ((ends[2], (3 * x, 3 * y)), ((-x, -y), (3 * x, 3 * y))))

    def test_crossing_on_the_rim(self):
        # The lines cross just where they leave the cell, so it matters whether short of that point or beyond.
        for x, y in ((5, 0), (-5, 0), (0, 5), (0, -5), (5, 2), (-5, 2), (2, 5), (2, -5)):
            for spread in (1, 2, 3):
                near = [(-x + dx * (y != 0), -y + dx * (x != 0)) for dx in (-spread, spread)]
                near = [(max(-4, min(4, u)), max(-4, min(4, v))) for u, v in near]
                lines = tuple((a, (a[0] + 9 * (x - a[0]), a[1] + 9 * (y - a[1]))) for a in near)
                ends = tuple(line[1] for line in lines)
                self.check(10, lines + (ends,))
                self.check(10, lines + ((near[0], near[1]), ends))
                self.check(10, lines + (ends, ((-90, -90), ends[0]), ((-90, -90), ends[1]), ((90, 90), ends[0])))

    def test_by_two_sides(self):
        # On to (3, 3) lines leave by the right side and by the upper one, and so round the corner.
        for u, v in ((1, 1), (-1, 1), (-1, -1), (1, -1)):
            one, other = ((3 * u, -2 * v), (33 * u, 26 * v)), ((-2 * u, 3 * v), (26 * u, 33 * v))
            last = ((-40 * u, 40 * v), (40 * u, -40 * v))
            for far in (((30 * u, 30 * v), (0, 90 * v)), ((30 * u, 30 * v), (90 * u, 0))):
                lines = (one, other, ((0, 0), (0, 90 * v)), ((0, 0), (90 * u, 0)), far, ((0, 90 * v), (90 * u, 0)))
                told, back = self.check(10, lines)
                self.assertGreater(len(told), 1)
                self.check(10, lines + (last,))

    def test_from_the_left_side_on_to_the_lower_one(self):
        # Both go on to (-3, -3); the one by the left side is told last, but gone round to first.
        left, lower = ((-2, 2), (-33, -27)), ((2, -2), (-27, -33))
        self.assertEqual(leavings(10, (left, lower), (0, 0)), ((1, 0, (-3, -3)), (0, 0, (-3, -3))))
        below = (left, lower, ((2, -2), (60, -60)), ((-27, -33), (60, -60)))
        self.tells((0, 1), ((0,), (1,)), *below)
        above = (left, lower, ((-2, 2), (-60, 60)), ((-33, -27), (-60, 60)))
        self.tells((0, 1), ((0,), (1,)), *above)
        self.tells((0, 1, 2), ((0,), (1,), (2,)), *above, *below)
        # With the narrow land between both, which vanishes.
        both = above + below + ((left[0], lower[0]), (left[1], lower[1]))
        told, back = self.check(10, both)
        self.assertEqual((len(told), back.count(())), (3, 1))

    def test_on_to_one_corner_alone(self):
        # All that leaves goes on to one corner, by the left side and the lower one.
        lines = (((-2, 2), (-33, -27)), ((2, -2), (-27, -33)), ((-33, -27), (-27, -33)), ((2, -2), (-2, 2)))
        self.tells((0,), ((0,), ()), *lines)
        self.check(10, lines + (((-30, -30), (-90, -30)), ((-30, -30), (-30, -90)), ((-90, -30), (-30, -90))))

    def test_through_the_lower_left_point(self):
        # Of the one line the cell has this point alone; it is gone round to from the upper side, and so the last.
        touching, above = ((15, -25), (-35, 25)), ((4, 3), (-26, 30))
        lines = (touching, above, ((15, -25), (-40, -30)), ((-40, -30), (-35, 25)))
        told, back = self.check(10, lines)
        self.assertEqual((told, back), ((0, 1), ((0,), (1,))))
        corners, paths = drawn(10, lines)
        self.assertEqual((paths[0][1:], paths[1]), (((0, 0), (-3, 3)), ((0, 0), (-3, 3))))
        # On to the other side, by the lower side.
        below = ((3, 4), (30, -26))
        self.check(10, (touching, below, ((15, -25), (40, 30)), ((-35, 25), (40, 30)), ((-40, -30), (15, -25))))

    def test_along_a_side(self):
        for line in (((-40, -5), (40, -5)), ((-5, -40), (-5, 40)), ((-40, 5), (40, 5)), ((5, -40), (5, 40))):
            for other in (((-40, -40), (40, 40)), ((-40, 40), (40, -40)), ((0, 0), (40, -6)), ((-6, 40), (0, 0))):
                ends = (line[0], line[1])
                for apex in ((90, 90), (-90, 70), (80, -90)):
                    lines = (line, other, (ends[0], apex), (ends[1], apex))
                    self.check(10, lines)
                    self.check(10, lines + (((0, 0), (1, 1)), (other[0], apex)))


class DrawingsTest(SourcesCase):
    def test_drawings(self):
        for lines in DRAWINGS:
            for grain in GRAINS:
                self.check(grain, lines)
        for lines, many in STRAIGHTS[:-4]:
            for grain in GRAINS:
                if len(lines) < 12:
                    self.check(grain, lines)

    def test_any_lines(self):
        for grain, lines in some_drawings():
            self.check(grain, lines)

    def test_long_lines(self):
        for seed in range(4):
            self.check(2, long_lines(8, 9, seed))
            self.check(10, long_lines(8, 25, seed))

    def test_twelve_lines(self):
        for grain, far in ((2, 8), (1000, MILLION)):
            self.check(grain, long_lines(12, far, 3))
        told, back = self.check(1, grid_lines(6, MILLION))
        self.assertEqual(sorted(told), list(range(26)))

    def test_great_numbers(self):
        lines = long_lines(12, 10 ** 39, 7)
        told = sources(10 ** 37, lines)
        self.assertEqual(len(told), len(lands_of(drawn(10 ** 37, lines)[1])))
        self.assertEqual(sources(10 ** 37, tuple(turned(line) for line in lines)), told)


class ReferenceTest(unittest.TestCase):
    def test_the_last_one_gone_round(self):
        self.assertEqual(sides_of_rim(0), {0, 3})
        self.assertEqual(sides_of_rim(2), {1, 2})
        self.assertEqual(last_by([(0, "a"), (1, "b"), (2, "c")]), "c")
        self.assertEqual(last_by([(0.5, "a"), (3.5, "b")]), "a")
        self.assertEqual(last_by([(0, "a"), (2.5, "b")]), "a")
        with self.assertRaises(ValueError):
            last_by([(0.5, "a"), (2.5, "b")])


if __name__ == "__main__":
    unittest.main()

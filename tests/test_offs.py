"""[12]: how far off a path lies from a line, the paper, and whether something is one; of [3] what speaks of it."""

import unittest
from fractions import Fraction
from math import gcd

from bent_reference import HALF, least_wide, off_by, off_paper_by, wide
from bent_samples import MOVED, QUARTER, along_a_row, sheared, some_paths
from cornerlines.offchecks import off_holds
from cornerlines.offs import off_of, off_paper
from cornerlines.paths import drawn
from reference import turned
from samples import DRAWINGS, GRAINS, MILLION, some_lines
from things import GREAT, anything, keeps, nested, spoilt

FLAT = ((0, 0), (40, 0))


def line_off(grain, line, path):
    """How far off the path points of the line lie, the farthest of some, in cells."""
    return max(nearest_link(grain, line, Fraction(k, 24), path) for k in range(25))


def nearest_link(grain, line, share, path):
    """How far the nearest point of the path is from the line's point at this share."""
    (x, y), (far_x, far_y) = line
    place = [Fraction(x + share * (far_x - x)) / grain, Fraction(y + share * (far_y - y)) / grain]
    links = list(zip(path, path[1:])) or [(path[0], path[0])]
    return min(least_wide(1, link, place) if link[0] != link[1] else apart(link[0], place) for link in links)


def apart(corner, place):
    return max(abs(number - middle) for number, middle in zip(corner, place))


class OffTest(unittest.TestCase):
    def check(self, grain, line, path):
        n, d = keeps(self, off_of, grain, line, path)
        self.assertEqual(gcd(n, d), 1)
        self.assertGreaterEqual(d, 1)
        self.assertEqual(Fraction(n, d), off_by(grain, line, path), (grain, line, path))
        paper = keeps(self, off_paper, grain, line, path)
        self.assertTrue(off_paper_by(grain, line, path, (n, d), paper), (grain, line, path, paper))
        self.assertIs(keeps(self, off_holds, grain, line, path, (n, d), paper), True)
        self.assertEqual(off_of(grain, line, path[::-1]), (n, d))
        self.assertEqual(off_of(grain, turned(line), path), (n, d))
        return n, d

    def tells(self, told, grain, line, path):
        self.assertEqual(self.check(grain, line, path), told)

    def test_a_corner_on_the_line(self):
        self.tells((0, 1), 10, FLAT, ((2, 0),))
        self.tells((0, 1), 10, FLAT, ((0, 0), (4, 0)))
        self.tells((0, 1), 3, ((0, 0), (9, 3)), ((0, 0), (3, 1)))
        self.tells((0, 1), 2, ((-1, -2), (5, 10)), ((1, 2),))

    def test_the_nearest_point_is_an_end(self):
        self.tells((3, 1), 10, FLAT, ((-3, 2),))
        self.tells((2, 1), 10, FLAT, ((6, 0),))
        self.tells((5, 1), 10, FLAT, ((9, -1), (4, 0)))
        self.tells((7, 10), 10, ((3, 3), (23, 27)), ((3, 2),))

    def test_the_nearest_point_is_inside(self):
        self.tells((3, 1), 10, FLAT, ((2, 3),))
        self.tells((1, 1), 10, ((0, 0), (40, 40)), ((1, 3),))
        self.tells((1, 3), 1, ((0, 0), (2, 1)), ((1, 1),))
        self.tells((1, 2), 10, ((0, 5), (40, 5)), ((1, 0), (2, 1), (3, 0)))

    def test_the_wider_number(self):
        self.tells((4, 1), 1, ((0, 0), (1, 0)), ((5, 3),))
        self.tells((3, 1), 1, ((0, 0), (2, 0)), ((5, -3),))
        self.tells((4, 1), 1, ((0, 0), (0, 1)), ((3, 5),))

    def test_the_greatest_over_the_corners(self):
        self.tells((7, 2), 2, ((0, 0), (9, 0)), ((0, 0), (8, 1), (3, 0)))
        self.tells((3, 1), 1, FLAT, ((5, 1), (6, -3), (7, 2)))

    def test_all_small(self):
        corners = [(i, j) for i in range(-2, 4) for j in range(-2, 4)]
        for grain in (1, 2, 3):
            for line in some_lines(25, 5, grain):
                for corner in corners:
                    share = off_paper(grain, line, (corner,))[0]
                    told = Fraction(*off_of(grain, line, (corner,)))
                    self.assertEqual(told, least_wide(grain, line, corner))
                    self.assertEqual(told, wide(grain, line, corner, Fraction(*share)))

    def test_paths_of_drawings(self):
        cases = [(grain, lines) for lines in DRAWINGS for grain in GRAINS]
        cases += [(grain, tuple(some_lines(12, far, far))) for grain, far in ((10, 40), (1, 3), (7, 30), (1000, MILLION))]
        for grain, lines in cases:
            corners, paths = drawn(grain, lines)
            for line, path in zip(lines, paths):
                n, d = self.check(grain, line, path)
                self.assertLessEqual(2 * n, d)
                self.assertLessEqual(line_off(grain, line, path), HALF)
                for k in range(1, len(path)):
                    self.assertLessEqual(Fraction(*off_of(grain, line, path[k:])), Fraction(n, d))
                    self.assertLessEqual(Fraction(*off_of(grain, line, path[:k])), Fraction(n, d))

    def test_no_point_of_the_links_is_farther(self):
        for seed in range(5):
            (path,) = some_paths(1, 6, 9, seed)
            for line in some_lines(5, 30, seed):
                off = Fraction(*off_of(10, line, path))
                for (i, j), (far_i, far_j) in zip(path, path[1:]):
                    for k in range(5):
                        place = (i + Fraction(k * (far_i - i), 4), j + Fraction(k * (far_j - j), 4))
                        self.assertLessEqual(least_wide(10, line, place), off)

    def test_any_corners(self):
        for grain, far, long in ((10, 60, 5), (3, 900, 12), (1000, MILLION, 60), (1, MILLION, 60)):
            for k, line in enumerate(some_lines(6, far, far)):
                near = some_lines(long, 4 + far // grain, k)
                path = tuple(sorted({point for pair in near for point in pair}))[:long]
                self.check(grain, line, path)
        self.check(1, FLAT, along_a_row(60))
        self.check(7, FLAT, along_a_row(60))

    def test_at_the_bounds(self):
        self.tells((2 * MILLION, 1), 1, ((-MILLION, -MILLION), (1 - MILLION, -MILLION)), ((0, MILLION),))
        self.tells((MILLION, 1), 1, ((-MILLION, -MILLION), (MILLION, MILLION)), ((-MILLION, MILLION),))
        self.tells((1, 1), 1, ((-MILLION, 0), (MILLION, 0)), ((0, 1), (MILLION, -1)))
        self.check(1, ((-MILLION, 0), (MILLION, 1)), ((0, 0), (1, 0), (-1, 1)))
        self.check(1000, ((-MILLION, 1), (MILLION, MILLION - 1)), ((-MILLION, -MILLION), (MILLION, MILLION), (0, 500)))
        self.check(1, ((-10 ** 24, 0), (10 ** 24, 1)), ((0, 0), (10 ** 30, 10 ** 29)))

    def test_moved_and_turned(self):
        for seed in range(6):
            (path,) = some_paths(1, 9, 9, seed)
            for line in some_lines(4, 90, seed):
                told = off_of(10, line, path)
                ((a, b, i), (c, d, j)) = MOVED
                moved = tuple((x + 10 * i, y + 10 * j) for x, y in line)
                self.assertEqual(off_of(10, moved, sheared((path,), MOVED)[0]), told)
                self.assertEqual(off_of(10, sheared((line,), QUARTER)[0], sheared((path,), QUARTER)[0]), told)
                self.assertEqual(off_of(40, tuple((4 * x, 4 * y) for x, y in line), path), told)


class OffHoldsTest(unittest.TestCase):
    line, path, off, paper = ((0, 5), (40, 5)), ((0, 0), (2, 1), (4, 0)), (1, 2), ((0, 1), (1, 2), (1, 1))

    def tells(self, told, off, thing):
        self.assertIs(keeps(self, off_holds, 10, self.line, self.path, off, thing), told, (off, thing))
        self.assertIs(off_paper_by(10, self.line, self.path, off, thing), told, (off, thing))

    def test_the_off_and_greater_ones(self):
        self.assertEqual(off_of(10, self.line, self.path), self.off)
        for off in (self.off, (2, 4), (1000, 2000), (1, 1), (51, 100), (GREAT, 1), (GREAT, 2 * GREAT), (GREAT + 1, 2 * GREAT)):
            self.tells(True, off, self.paper)
            self.tells(True, off, off_paper(10, self.line, self.path))

    def test_lesser_ones(self):
        for off in ((0, 1), (0, 5), (49, 100), (1, 3), (GREAT, 2 * GREAT + 1)):
            self.tells(False, off, self.paper)

    def test_what_is_no_off(self):
        wrong = (
            (-1, 2), (1, -2), (-1, -2), (1, 0), (0, 0), (-GREAT, 1), (1,), (1, 2, 1), (), [1, 2], (True, 1), (1, True),
            (None, 2), (1, None), ("1", 2), ((1, 2),), (1, (2,)), None, True, 1, "1/2", {1: 2}, (1, [2]),
        )
        for off in wrong:
            self.tells(False, off, self.paper)
        for off in anything():
            self.tells(False, off, self.paper)

    def test_nought(self):
        line, path, paper = FLAT, ((0, 0), (3, 0)), ((0, 1), (3, 4))
        for off in ((0, 1), (0, 7), (1, GREAT)):
            self.assertIs(off_holds(10, line, path, off, paper), True)
        self.assertIs(off_holds(10, line, path, (0, 1), ((0, 1), (3, 5))), False)
        self.assertIs(off_holds(10, line, path, (0, -1), paper), False)

    def test_other_shares(self):
        for k, m in ((3, 8), (5, 8), (2, 4), (GREAT, 2 * GREAT)):
            self.tells(True, (1, 2), ((0, 9), (k, m), (8, 8)))
        for k, m in ((1, 4), (3, 4), (0, 1), (1, 1), (374, 1000), (626, 1000)):
            self.tells(False, (1, 2), ((0, 9), (k, m), (8, 8)))

    def test_shares_that_are_none(self):
        for share in ((0, 0), (1, 0), (-1, 8), (9, 8), (0, -1), (-1, -2), (1, 2, 3), (1,), (), None, (True, 2), (1, True)):
            self.tells(False, (GREAT, 1), ((0, 1), share, (1, 1)))
        # Beyond its ends the straight line goes on, but not the line.
        path = ((-3, 0), (9, 0))
        self.assertIs(off_holds(10, FLAT, path, (3, 1), ((-3, 4), (9, 4))), False)
        self.assertIs(off_holds(10, FLAT, path, (5, 1), ((-3, 4), (1, 1))), False)
        self.assertIs(off_holds(10, FLAT, path, (5, 1), ((0, 1), (9, 4))), False)
        self.assertIs(off_holds(10, FLAT, path, (5, 1), ((0, 1), (1, 1))), True)

    def test_left_out_twice_one_more_exchanged(self):
        for k in range(3):
            self.tells(False, (1, 1), self.paper[:k] + self.paper[k + 1:])
            self.tells(False, (1, 1), self.paper[:k] + self.paper[k:k + 1] + self.paper[k:])
        self.tells(False, (1, 1), self.paper + ((1, 1),))
        self.tells(False, (1, 1), ())
        self.tells(False, (1, 1), self.paper[::-1])

    def test_spoilt_papers(self):
        for thing in spoilt(self.paper):
            self.tells(False, (1, 2), thing)
        for k, part in enumerate(self.paper):
            for thing in spoilt(part):
                self.tells(False, (GREAT, 1), self.paper[:k] + (thing,) + self.paper[k + 1:])

    def test_anything_else(self):
        for thing in anything():
            self.tells(False, (GREAT, 1), thing)
            self.tells(False, thing, thing)
            self.tells(False, (GREAT, 1), ((0, 1), (1, 2), thing))
        for kind in ("tuple", "list", "dict"):
            self.tells(False, (GREAT, 1), ((0, 1), (1, nested(38, kind)), (1, 1)))
            self.tells(False, (nested(39, kind), 1), self.paper)

    def test_sixty_corners(self):
        path = along_a_row(60)
        paper = off_paper(10, FLAT, path)
        off = off_of(10, FLAT, path)
        self.assertEqual(off, (55, 1))
        self.assertIs(off_holds(10, FLAT, path, off, paper), True)
        self.assertIs(off_holds(10, FLAT, path, (549, 10), paper), False)
        self.assertIs(off_holds(10, FLAT, path, off, paper[1:] + paper[:1]), False)


if __name__ == "__main__":
    unittest.main()

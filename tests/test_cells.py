"""[10]: whether a line meets a cell, and the paper that shows why."""

import unittest
from fractions import Fraction

from cornerlines.cells import meets, meets_paper, shares_within
from reference import HALF, meets_by, meets_paper_by, place_at, rim_shares, turned
from samples import MILLION, corners_about, some_lines
from things import keeps

# By the grain 10, of the corner (0, 0): its cell is from -5 to 5, and has its lesser sides.
MEET = (
    # An end in the cell, on its lesser sides, at its least point.
    ((0, 0), (100, 90)), ((4, 4), (5, 5)), ((-5, 0), (-50, 7)), ((0, -5), (7, -50)), ((-5, -5), (-50, -50)),
    ((-5, -5), (-5, -6)), ((-5, -5), (-6, -5)), ((-5, 4), (-5, 50)), ((4, -5), (50, -5)), ((-5, -5), (-4, -50)),
    # Both ends in it.
    ((1, 1), (2, 2)), ((-5, -5), (4, 4)), ((-5, 4), (4, -5)),
    # Along a lesser side.
    ((-5, -3), (-5, 3)), ((-5, -30), (-5, 30)), ((-3, -5), (3, -5)), ((-30, -5), (30, -5)), ((-5, 5), (-5, 4)),
    ((-5, -9), (-5, -5)), ((-9, -5), (-5, -5)), ((5, -5), (4, -5)),
    # At one point alone.
    ((-10, 0), (0, -10)), ((-6, -4), (-4, -6)), ((-10, 5), (5, -10)), ((-7, -4), (-3, -6)),
    # Across, and over one of its outermost points.
    ((-20, -1), (20, 3)), ((-1, -20), (3, 20)), ((-20, -20), (20, 20)), ((-20, 20), (20, -20)), ((0, 9), (9, 0)),
    ((-9, 0), (0, 9)), ((-10, -5), (10, 15)), ((4, -50), (4, 50)), ((-50, 4), (50, 4)), ((-5, 5), (5, -5)),
    ((-10, -1), (1, 10)), ((-5, 5), (0, 0)), ((5, 5), (0, 0)), ((5, -5), (0, 0)), ((-5, 5), (5, -4)), ((-6, 5), (5, -6)),
)
MISS = (
    # An end on a greater side, at the three other outermost points.
    ((5, 0), (50, 7)), ((0, 5), (7, 50)), ((5, 5), (50, 50)), ((5, -5), (50, -5)), ((-5, 5), (-5, 50)), ((5, 4), (6, 4)),
    ((5, -5), (5, -50)), ((5, -5), (4, -6)), ((-5, 5), (-6, 4)), ((-5, 5), (-50, 5)), ((4, 5), (4, 6)), ((-5, 5), (50, 6)),
    # Along a greater side.
    ((5, -3), (5, 3)), ((5, -30), (5, 30)), ((-3, 5), (3, 5)), ((-30, 5), (30, 5)), ((5, 5), (5, -5)), ((5, 5), (-5, 5)),
    # At one point alone, which the cell hasn't.
    ((0, -10), (10, 0)), ((-10, 0), (0, 10)), ((0, 10), (10, 0)), ((4, -6), (6, -4)), ((-6, 4), (-4, 6)), ((4, 6), (6, 4)),
    ((3, -9), (7, -1)), ((-9, 3), (-1, 7)),
    # Beside it, and far off.
    ((-6, -30), (-6, 30)), ((-30, -6), (30, -6)), ((-6, -5), (-5, -6)), ((-11, 0), (0, -11)), ((6, -30), (6, 30)),
    ((0, 11), (11, 0)), ((100, 100), (200, 103)), ((-100, 0), (-6, 0)), ((6, 0), (100, 0)), ((0, 6), (0, 100)),
    ((0, -100), (0, -6)), ((-MILLION, -6), (MILLION, -6)), ((MILLION, 0), (0, MILLION)), ((-40, 5), (41, 6)),
)


class MeetsTest(unittest.TestCase):
    def tells(self, told, grain, line, corner):
        for way in (line, turned(line)):
            self.assertIs(keeps(self, meets, grain, way, corner), told, (grain, way, corner))

    def test_lines_that_meet_the_cell(self):
        for line in MEET:
            self.tells(True, 10, line, (0, 0))

    def test_lines_that_do_not(self):
        for line in MISS:
            self.tells(False, 10, line, (0, 0))

    def test_moved_by_whole_corners(self):
        for i, j in ((3, 0), (0, -4), (-100, 99), (MILLION, -MILLION)):
            for told, lines in ((True, MEET), (False, MISS)):
                for line in lines:
                    moved = tuple((x + 10 * i, y + 10 * j) for x, y in line)
                    self.tells(told, 10, moved, (i, j))

    def test_a_greater_grain(self):
        for told, lines in ((True, MEET), (False, MISS)):
            for line in lines:
                self.tells(told, 1000, tuple((100 * x, 100 * y) for x, y in line), (0, 0))

    def test_at_the_bounds(self):
        self.tells(True, 1000, ((-MILLION, -MILLION), (MILLION, MILLION)), (1000, 1000))
        self.tells(True, 1, ((-MILLION, -MILLION), (MILLION, MILLION - 1)), (0, 0))
        self.tells(False, 1, ((-MILLION, 1 - MILLION), (MILLION - 1, MILLION)), (0, 0))
        self.tells(True, 1, ((-MILLION, 1), (MILLION, 0)), (0, 1))
        self.tells(False, 1, ((-MILLION, 1), (MILLION, 0)), (1, 1))
        self.tells(True, 1, ((-MILLION, 1), (MILLION, 0)), (1, 0))
        self.tells(True, 1, ((-MILLION, 1), (MILLION, 0)), (0, 0))
        self.tells(False, 1, ((-MILLION, 1), (MILLION, 0)), (-1, 0))


class SharesWithinTest(unittest.TestCase):
    def check(self, grain, line, corner):
        """With all four sides, the line lies in cell and rim from the first to the last share told."""
        within = []
        for share in rim_shares(grain, line, corner):
            far = [abs(number / grain - middle) for number, middle in zip(place_at(line, share), corner)]
            if max(far) <= HALF:
                within.append(share)
        told = shares_within(grain, line, corner)
        if within == []:
            self.assertIsNone(told, (grain, line, corner))
        else:
            self.assertEqual([Fraction(*share) for share in told], [within[0], within[-1]], (grain, line, corner))

    def test_first_and_last_shares(self):
        for line in (*MEET, *MISS):
            for way in (line, turned(line)):
                for corner in corners_about(1):
                    self.check(10, way, corner)
        for line in some_lines(60, 6, 6):
            for corner in corners_about(2):
                self.check(2, line, corner)
                self.check(3, line, corner)


class MeetsPaperTest(unittest.TestCase):
    def check(self, grain, line, corner):
        told = meets_by(grain, line, corner)
        self.assertIs(meets(grain, line, corner), told, (grain, line, corner))
        paper = meets_paper(grain, line, corner)
        self.assertEqual(paper[0], "meets" if told else "misses")
        self.assertTrue(meets_paper_by(grain, line, corner, paper), (grain, line, corner, paper))

    def test_the_lines_above(self):
        just = 0
        for line in (*MEET, *MISS):
            for way in (line, turned(line)):
                keeps(self, meets_paper, 10, way, (0, 0))
                self.check(10, way, (0, 0))
                word, *rest = meets_paper(10, way, (0, 0))
                if word == "misses":
                    p, q, r = rest
                    greatest = max(p * x + q * y for x in (-10, 10) for y in (-10, 10))
                    just += greatest == r and (p > 0 or q > 0)
        self.assertGreater(just, 9)

    def test_all_small_lines(self):
        points = [(x, y) for x in range(-2, 3) for y in range(-2, 3)]
        for a in points:
            for b in points:
                if a != b:
                    for corner in corners_about(1):
                        self.check(2, (a, b), corner)

    def test_small_lines_of_odd_grains(self):
        for grain in (1, 3):
            for line in some_lines(120, 4, grain):
                for corner in corners_about(2):
                    self.check(grain, line, corner)

    def test_some_lines(self):
        for grain, far in ((4, 8), (10, 30), (10, 70), (1000, 4000)):
            for line in some_lines(60, far, far):
                for corner in corners_about(2):
                    self.check(grain, line, corner)
        for line in some_lines(60, MILLION, 3):
            for corner in ((0, 0), (1000, -1000), (-300, 400)):
                self.check(1000, line, corner)


if __name__ == "__main__":
    unittest.main()

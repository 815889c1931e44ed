"""[10]: whether something is a paper of a line and a cell."""

import unittest
from itertools import product

from cornerlines.cellchecks import meets_holds
from cornerlines.cells import meets_paper
from reference import meets_paper_by, turned
from samples import MILLION, corners_about, some_lines
from test_cells import MEET, MISS
from things import GREAT, anything, keeps, nested, spoilt

ACROSS = ((-20, 0), (20, 0))
BESIDE = ((5, -3), (5, 3))
BELOW = ((-3, -6), (3, -6))


class MeetsHoldsTest(unittest.TestCase):
    def tells(self, told, line, thing):
        self.assertIs(keeps(self, meets_holds, 10, line, (0, 0), thing), told, (line, thing))

    def test_what_is_told_holds(self):
        for line in (*MEET, *MISS):
            for way in (line, turned(line)):
                self.tells(True, way, meets_paper(10, way, (0, 0)))
        for far in (9, 40, MILLION):
            for line in some_lines(30, far, far):
                for corner in corners_about(1):
                    self.assertIs(meets_holds(10, line, corner, meets_paper(10, line, corner)), True)

    def test_any_share_in_the_cell(self):
        for k, m in ((1, 2), (2, 4), (3, 8), (GREAT, 2 * GREAT), (6249, 10000)):
            self.tells(True, ACROSS, ("meets", k, m))
        self.tells(True, ((0, 0), (90, 0)), ("meets", 0, 1))
        self.tells(True, ((90, 0), (0, 0)), ("meets", 7, 7))

    def test_shares_not_in_the_cell(self):
        for k, m in ((0, 1), (1, 1), (5, 8), (1, 4), (3, 4), (6251, 10000), (3749, 10000)):
            self.tells(False, ACROSS, ("meets", k, m))
        for k in range(7):
            self.tells(False, BESIDE, ("meets", k, 6))

    def test_shares_out_of_their_bounds(self):
        for k, m in ((-1, -2), (0, 0), (1, 0), (0, -1), (-1, 2)):
            self.tells(False, ACROSS, ("meets", k, m))
        # There the straight line goes on into the cell, but not the line.
        self.tells(False, ((-20, 0), (-10, 0)), ("meets", 2, 1))
        self.tells(False, ((10, 0), (20, 0)), ("meets", -1, 1))

    def test_any_way_that_parts_them(self):
        self.tells(True, BESIDE, ("misses", 1, 0, 10))
        self.tells(True, BESIDE, ("misses", 7, 0, 70))
        self.tells(True, BELOW, ("misses", 0, -1, 11))
        self.tells(True, BELOW, ("misses", 0, -1, 12))
        self.tells(True, ((90, 0), (91, 5)), ("misses", 1, -2, 31))
        self.tells(True, ((90, 0), (91, 5)), ("misses", GREAT, 0, 11 * GREAT))

    def test_ways_that_do_not_part_them(self):
        self.tells(False, BESIDE, ("misses", 1, 0, 11))
        self.tells(False, BESIDE, ("misses", 1, 0, 9))
        self.tells(False, BESIDE, ("misses", -1, 0, 10))
        self.tells(False, BESIDE, ("misses", 0, 0, 0))
        self.tells(False, BESIDE, ("misses", 0, 0, -1))
        self.tells(False, BELOW, ("misses", 0, 0, -1))
        self.tells(False, BELOW, ("misses", 0, -1, 10))
        self.tells(False, BELOW, ("misses", 0, -1, 13))
        self.tells(False, ACROSS, ("misses", 0, 1, 0))

    def test_just_r_where_p_or_q_is_above_nought(self):
        self.tells(True, ((0, -10), (10, 0)), ("misses", 1, -1, 20))
        self.tells(True, ((-10, 0), (0, 10)), ("misses", -1, 1, 20))
        self.tells(True, ((0, 10), (10, 0)), ("misses", 1, 1, 20))
        self.tells(False, ((-10, 0), (0, -10)), ("misses", -1, -1, 20))
        self.tells(False, ((-5, -3), (-5, 3)), ("misses", -1, 0, 10))
        self.tells(False, ((-3, -5), (3, -5)), ("misses", 0, -1, 10))
        self.tells(True, ((-3, 5), (3, 5)), ("misses", 0, 1, 10))
        self.tells(True, ((-11, 0), (0, -11)), ("misses", -1, -1, 21))

    def test_all_small_papers(self):
        told = {True: 0, False: 0}
        for line in (((-3, 0), (3, 1)), ((1, -2), (1, 2)), ((-1, 1), (1, 1)), ((0, -2), (2, 0)), ((-2, 0), (0, -2))):
            for corner in ((0, 0), (1, 0), (0, -1)):
                papers = [("meets", k, m) for k in range(-1, 7) for m in range(-1, 7)]
                papers += [("misses", *way) for way in product(range(-2, 3), range(-2, 3), range(-9, 10))]
                for paper in papers:
                    holds = meets_holds(2, line, corner, paper)
                    self.assertIs(holds, meets_paper_by(2, line, corner, paper), (line, corner, paper))
                    told[holds] += 1
        self.assertGreater(told[True], 50)

    def test_spoilt_papers(self):
        for line in (ACROSS, BESIDE, BELOW, ((0, -10), (10, 0))):
            for thing in spoilt(meets_paper(10, line, (0, 0))):
                self.tells(False, line, thing)
        for thing in spoilt(("meets", 1, 1)):
            self.tells(False, ((9, 9), (1, 1)), thing)
        for thing in spoilt(("misses", 1, 0, 10)):
            self.tells(False, BESIDE, thing)

    def test_other_words(self):
        for word in ("meet", "miss", "apart", "along", "Meets", "misses ", "", None, 0):
            self.tells(False, ACROSS, (word, 1, 2))
            self.tells(False, BESIDE, (word, 1, 0, 10))
        self.tells(False, ACROSS, ("misses", 1, 2))
        self.tells(False, BESIDE, ("meets", 1, 0, 10))
        self.tells(False, ACROSS, ("meets", 1, 2, 1, 2))

    def test_anything_else(self):
        for thing in anything():
            for line in (ACROSS, BESIDE):
                self.tells(False, line, thing)
        for kind in ("tuple", "list", "dict"):
            self.tells(False, ACROSS, ("meets", 1, nested(39, kind)))
            self.tells(False, BESIDE, ("misses", nested(39, kind), 0, 10))


if __name__ == "__main__":
    unittest.main()

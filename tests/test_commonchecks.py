"""[7]: whether something is a paper of what two lines have in common."""

import unittest
from itertools import product

from cornerlines.commonchecks import common_holds
from cornerlines.crossing import common_paper
from reference import common_paper_by, turned
from samples import MILLION, PAIRS, SMALL_LINES, all_ways, some_lines
from things import GREAT, anything, keeps, nested, spoilt

CROSSED = (((0, 0), (4, 4)), ((0, 4), (4, 0)))
APART = (((0, 0), (4, 0)), ((0, 3), (4, 3)))
ALONG = (((0, 0), (2, 0)), ((2, 0), (6, 0)))
STRETCH = (((0, 0), (4, 2)), ((6, 3), (2, 1)))
BESIDE = (((0, 0), (2, 1)), ((3, 1), (2, 2)))


class CommonHoldsTest(unittest.TestCase):
    def tells(self, told, one, other, thing):
        self.assertIs(keeps(self, common_holds, one, other, thing), told, (one, other, thing))

    def test_what_is_told_holds(self):
        for one, other, spots in PAIRS:
            for a, b in all_ways(one, other):
                self.tells(True, a, b, common_paper(a, b))
        for one in SMALL_LINES[::5]:
            for other in SMALL_LINES:
                self.assertIs(common_holds(one, other, common_paper(one, other)), True)
        lines = some_lines(20, MILLION, 1)
        for one in lines:
            for other in lines:
                self.assertIs(common_holds(one, other, common_paper(one, other)), True)

    def test_papers_of_another_writer(self):
        self.tells(True, *APART, ("apart", 0, 1, 1))
        self.tells(True, *APART, ("apart", 0, 1, 2))
        self.tells(True, *APART, ("apart", 0, 20, 31))
        self.tells(True, *APART, ("apart", 1, 9, 14))
        self.tells(True, *CROSSED, ("meets", 1, 2, 1, 2))
        self.tells(True, *CROSSED, ("meets", 5, 10, 2, 4))
        self.tells(True, *CROSSED, ("meets", GREAT, 2 * GREAT, 3 * GREAT, 6 * GREAT))
        self.tells(True, *ALONG, ("meets", 1, 1, 0, 1))
        self.tells(True, *ALONG, ("meets", 7, 7, 0, 9))

    def test_each_spot_of_a_stretch(self):
        self.tells(True, *STRETCH, ("meets", 1, 2, 1, 1))
        self.tells(True, *STRETCH, ("meets", 1, 1, 1, 2))
        self.tells(True, *STRETCH, ("meets", 3, 4, 3, 4))
        self.tells(False, *STRETCH, ("meets", 3, 4, 2, 4))
        self.tells(False, *STRETCH, ("meets", 1, 4, 5, 4))

    def test_just_r_at_a_point(self):
        self.tells(False, *APART, ("apart", 0, 1, 0))
        self.tells(False, *APART, ("apart", 0, 1, 3))
        self.tells(False, *BESIDE, ("apart", 1, 0, 2))
        self.tells(False, *BESIDE, ("apart", 0, 1, 1))
        self.tells(True, *BESIDE, ("apart", 2, 2, 7))
        self.tells(False, *BESIDE, ("apart", 1, 1, 3))
        self.tells(False, *BESIDE, ("apart", 1, 1, 4))

    def test_exchanged_lines(self):
        one, other = APART
        self.tells(False, other, one, ("apart", 0, 1, 1))
        self.tells(True, other, one, ("apart", 0, -1, -1))
        self.tells(True, turned(one), turned(other), ("apart", 0, 1, 1))
        one, other = BESIDE
        self.tells(False, other, one, common_paper(one, other))
        one, other = ((0, 0), (4, 0)), ((1, -1), (1, 3))
        self.tells(True, one, other, ("meets", 1, 4, 1, 4))
        one, other = ((0, 0), (4, 0)), ((1, -1), (1, 1))
        self.tells(True, one, other, ("meets", 1, 4, 1, 2))
        self.tells(False, other, one, ("meets", 1, 4, 1, 2))
        self.tells(False, turned(one), other, ("meets", 1, 4, 1, 2))

    def test_shares_out_of_their_bounds(self):
        one, other = ((0, 0), (4, 0)), ((6, -2), (6, 2))
        self.tells(False, one, other, ("meets", 3, 2, 1, 2))
        self.tells(False, other, one, ("meets", 1, 2, 3, 2))
        one, other = ((0, 0), (4, 0)), ((-4, -2), (-4, 2))
        self.tells(False, one, other, ("meets", -1, 1, 1, 2))
        self.tells(False, other, one, ("meets", 1, 2, -1, 1))
        self.tells(False, *CROSSED, ("meets", -1, -2, 1, 2))
        self.tells(False, *CROSSED, ("meets", 1, 2, -1, -2))
        self.tells(False, *CROSSED, ("meets", 0, 0, 0, 0))
        self.tells(False, *CROSSED, ("meets", 1, 2, 0, 0))
        self.tells(False, *CROSSED, ("meets", 0, 0, 1, 2))

    def test_unlike_places(self):
        self.tells(False, *CROSSED, ("meets", 1, 3, 1, 2))
        self.tells(False, *CROSSED, ("meets", 1, 2, 1, 3))
        self.tells(False, *CROSSED, ("meets", 0, 1, 0, 1))
        # Alike by one number alone.
        self.tells(False, *CROSSED, ("meets", 1, 4, 1, 4))
        self.tells(False, *CROSSED, ("meets", 1, 4, 3, 4))
        self.tells(False, *APART, ("meets", 1, 2, 1, 2))

    def test_all_small_papers(self):
        for one, other in (CROSSED, APART, ALONG, STRETCH, BESIDE):
            for p, q, r in product(range(-2, 3), range(-2, 3), range(-7, 8)):
                paper = ("apart", p, q, r)
                self.assertIs(common_holds(one, other, paper), common_paper_by(one, other, paper), paper)
            for shares in product(range(-1, 5), repeat=4):
                paper = ("meets", *shares)
                self.assertIs(common_holds(one, other, paper), common_paper_by(one, other, paper), paper)

    def test_spoilt_papers(self):
        for one, other in (CROSSED, APART, ALONG, STRETCH, BESIDE):
            for thing in spoilt(common_paper(one, other)):
                self.tells(False, one, other, thing)
        for thing in spoilt(("apart", 0, 1, 1)):
            self.tells(False, *APART, thing)
        for thing in spoilt(("meets", 1, 1, 0, 1)):
            self.tells(False, *ALONG, thing)

    def test_other_words(self):
        for word in ("meet", "Apart", "apart ", "misses", "along", "", "MEETS", None, 0):
            self.tells(False, *APART, (word, 0, 1, 1))
            self.tells(False, *CROSSED, (word, 1, 2, 1, 2))
        self.tells(False, *APART, ("meets", 0, 1, 1))
        self.tells(False, *CROSSED, ("apart", 1, 2, 1, 2))

    def test_anything_else(self):
        for thing in anything():
            for one, other in (CROSSED, APART):
                self.tells(False, one, other, thing)
        for kind in ("tuple", "list", "dict"):
            self.tells(False, *APART, ("apart", nested(39, kind), 1, 1))
            self.tells(False, *CROSSED, ("meets", 1, 2, 1, nested(39, kind)))


if __name__ == "__main__":
    unittest.main()

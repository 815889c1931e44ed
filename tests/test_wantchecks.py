"""[9]: that nothing wants a corner."""

import unittest
from itertools import product

from cornerlines.wantchecks import unwanted_holds, unwanted_paper
from reference import are_on_one, unwanted_by, wants_by
from samples import DRAWINGS, GRAINS, MILLION, corners_about, some_lines
from things import GREAT, anything, keeps, nested, spoilt

CROSSED = (((0, 0), (40, 40)), ((0, 40), (40, 0)))
APART = (((0, 0), (40, 0)), ((0, 30), (40, 30)))
TOUCHING = (((0, 0), (40, 0)), ((40, 0), (80, 0)))
STRETCH = (((0, 0), (40, 0)), ((10, 0), (80, 0)))
BEHIND = (((0, 0), (40, 0)), ((50, 0), (80, 0)))
THREE = (((0, 0), (40, 40)), ((0, 40), (40, 0)), ((0, 90), (40, 91)))


class UnwantedPaperTest(unittest.TestCase):
    def check(self, grain, lines, corner):
        paper = unwanted_paper(grain, lines, corner)
        if corner in dict(wants_by(grain, lines)):
            self.assertIsNone(paper)
            return
        self.assertTrue(unwanted_by(grain, lines, corner, paper), (grain, lines, corner, paper))
        self.assertIs(unwanted_holds(grain, lines, corner, paper), True)
        pairs = [(k, l) for k in range(len(lines)) for l in range(k + 1, len(lines))]
        self.assertEqual(len(paper), len(pairs))
        for (k, l), part in zip(pairs, paper):
            if part == ("along",):
                self.assertTrue(are_on_one(lines[k] + lines[l]))

    def test_of_no_lines(self):
        self.assertEqual(keeps(self, unwanted_paper, 10, (), (0, 0)), ())

    def test_of_one_line(self):
        lines = (((0, 0), (40, 0)),)
        self.assertEqual(keeps(self, unwanted_paper, 10, lines, (2, 0)), ())
        self.assertEqual(unwanted_paper(10, lines, (7, 7)), ())
        self.assertIsNone(keeps(self, unwanted_paper, 10, lines, (0, 0)))
        self.assertIsNone(unwanted_paper(10, lines, (4, 0)))

    def test_ends_at_the_rim(self):
        lines = (((5, 0), (40, 5)),)
        self.assertEqual(unwanted_paper(10, lines, (0, 0)), ())
        self.assertIsNone(unwanted_paper(10, lines, (1, 0)))
        self.assertEqual(unwanted_paper(10, lines, (4, 0)), ())
        self.assertIsNone(unwanted_paper(10, lines, (4, 1)))

    def test_a_meeting_point_on_the_rim(self):
        lines = (((-20, 5), (20, 5)), ((5, -20), (5, 20)))
        self.assertIsNone(unwanted_paper(10, lines, (1, 1)))
        for corner in ((0, 0), (0, 1), (1, 0)):
            self.check(10, lines, corner)
            self.assertEqual(unwanted_paper(10, lines, corner), (("meets", 5, 8, 5, 8),))

    def test_lines_along_one_straight_line(self):
        for lines in (TOUCHING, STRETCH, BEHIND):
            self.assertEqual(keeps(self, unwanted_paper, 10, lines, (2, 0)), (("along",),))
            self.assertIsNone(unwanted_paper(10, lines, (8, 0)))

    def test_all_corners_about(self):
        for lines in DRAWINGS:
            for grain in (1, 7, 10, 20):
                for corner in corners_about(5):
                    self.check(grain, lines, corner)

    def test_some_lines(self):
        for seed, far in product(range(6), (6, 30, MILLION)):
            lines = tuple(some_lines(seed + 2, far, seed))
            for grain in GRAINS:
                for corner in (*corners_about(1), *dict(wants_by(grain, lines))):
                    self.check(grain, lines, corner)

    def test_twelve_lines(self):
        for far in (12, 50, MILLION):
            lines = tuple(some_lines(12, far, far))
            for corner in (*corners_about(1), *list(dict(wants_by(10, lines)))[:5], (MILLION, -MILLION)):
                self.check(10, lines, corner)
            self.assertEqual(len(unwanted_paper(10, lines, (MILLION, MILLION))), 66)


class UnwantedHoldsTest(unittest.TestCase):
    def tells(self, told, lines, corner, thing):
        self.assertIs(keeps(self, unwanted_holds, 10, lines, corner, thing), told, (lines, corner, thing))

    def test_of_no_lines_and_one(self):
        one = (((0, 0), (40, 0)),)
        for lines, corner in (((), (0, 0)), (one, (2, 0)), (one, (1, 1))):
            self.tells(True, lines, corner, ())
            for thing in (None, [], {}, "", 0, False, ((),), (("along",),), ((("along",),),), (None,)):
                self.tells(False, lines, corner, thing)
        self.tells(False, one, (0, 0), ())
        self.tells(False, one, (4, 0), ())

    def test_ends_at_the_rim(self):
        lines = (((5, -5), (40, 5)),)
        self.tells(False, lines, (1, 0), ())
        self.tells(True, lines, (0, 0), ())
        self.tells(True, lines, (0, -1), ())
        self.tells(False, lines, (4, 1), ())
        self.tells(True, lines, (4, 0), ())

    def test_apart(self):
        self.tells(True, APART, (2, 2), (("apart", 0, 1, 1),))
        self.tells(True, APART, (2, 0), (("apart", 0, 1, 29),))
        self.tells(False, APART, (2, 2), (("apart", 0, 1, 30),))
        self.tells(False, APART, (2, 2), (("apart", 0, -1, -1),))
        self.tells(False, APART, (2, 2), (("along",),))
        self.tells(False, APART, (0, 0), (("apart", 0, 1, 1),))
        self.tells(False, APART, (4, 3), (("apart", 0, 1, 1),))

    def test_meets(self):
        self.tells(True, CROSSED, (1, 1), (("meets", 1, 2, 1, 2),))
        self.tells(True, CROSSED, (7, 7), (("meets", 2, 4, 3, 6),))
        self.tells(False, CROSSED, (2, 2), (("meets", 1, 2, 1, 2),))
        self.tells(False, CROSSED, (1, 1), (("meets", 1, 2, 1, 3),))
        self.tells(False, CROSSED, (1, 1), (("along",),))
        self.tells(False, CROSSED, (0, 4), (("meets", 1, 2, 1, 2),))

    def test_along(self):
        for lines in (TOUCHING, STRETCH, BEHIND):
            self.tells(True, lines, (2, 0), (("along",),))
            self.tells(True, lines, (2, 2), (("along",),))
            self.tells(False, lines, (0, 0), (("along",),))
            self.tells(False, lines, (8, 0), (("along",),))
        self.tells(False, TOUCHING, (4, 0), (("along",),))
        self.tells(True, BEHIND, (2, 0), (("apart", 1, 0, 41),))
        self.tells(True, TOUCHING, (2, 0), (("meets", 1, 1, 0, 1),))
        self.tells(True, STRETCH, (6, 0), (("meets", 1, 2, 1, 7),))
        self.tells(False, STRETCH, (2, 0), (("meets", 1, 2, 1, 7),))
        beside = (((0, 0), (40, 0)), ((50, 0), (80, 1)))
        self.tells(False, beside, (2, 0), (("along",),))
        beside = (((0, 0), (40, 0)), ((50, 1), (80, 0)))
        self.tells(False, beside, (2, 0), (("along",),))
        beside = (((0, 0), (40, 0)), ((50, 1), (80, 1)))
        self.tells(False, beside, (2, 0), (("along",),))

    def test_parts_in_their_order(self):
        paper = unwanted_paper(10, THREE, (1, 0))
        self.assertEqual([part[0] for part in paper], ["meets", "apart", "apart"])
        self.tells(True, THREE, (1, 0), paper)
        self.tells(False, THREE, (1, 0), paper[1:] + paper[:1])
        self.tells(False, THREE, (1, 0), paper[::-1])
        self.tells(False, THREE, (1, 0), paper[:2])
        self.tells(False, THREE, (1, 0), paper + paper[2:])
        self.tells(False, THREE, (1, 0), paper[:2] + (("along",),))
        self.tells(False, THREE, (1, 0), ())
        self.tells(False, THREE, (2, 2), paper)

    def test_all_small_papers(self):
        told = {True: 0, False: 0}
        for lines in (CROSSED, APART, TOUCHING, STRETCH, BEHIND):
            for corner in ((2, 0), (2, 2), (4, 0), (4, 4)):
                papers = [("meets", *shares) for shares in product(range(-1, 5), range(1, 5), range(5), range(5))]
                papers += [("apart", *way) for way in product((-1, 0, 1), (-1, 0, 1), (-45, -20, 0, 10, 30, 45))]
                for paper in papers:
                    holds = unwanted_holds(10, lines, corner, (paper,))
                    self.assertIs(holds, unwanted_by(10, lines, corner, (paper,)), (lines, corner, paper))
                    told[holds] += 1
        self.assertGreater(told[True], 30)

    def test_spoilt_papers(self):
        for lines, corner in ((CROSSED, (1, 1)), (APART, (2, 2)), (STRETCH, (2, 0)), (THREE, (1, 0)), (BEHIND, (6, 0))):
            paper = unwanted_paper(10, lines, corner)
            self.tells(True, lines, corner, paper)
            for thing in spoilt(paper):
                self.tells(False, lines, corner, thing)
            for k, part in enumerate(paper):
                for thing in spoilt(part):
                    self.tells(False, lines, corner, paper[:k] + (thing,) + paper[k + 1:])

    def test_anything_else(self):
        for lines in (CROSSED, APART, STRETCH, THREE):
            for thing in anything():
                self.tells(False, lines, (7, 7), thing)
                self.tells(thing == ("along",) and lines == STRETCH, lines, (7, 7), (thing,))
            for kind in ("tuple", "list", "dict"):
                self.tells(False, lines, (7, 7), (nested(39, kind),))
                self.tells(False, lines, (7, 7), (("apart", nested(38, kind), 1, 1),))
        self.tells(True, APART, (7, 7), (("apart", 0, GREAT, 10 ** 40),))


if __name__ == "__main__":
    unittest.main()

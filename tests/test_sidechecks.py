"""[16]: whether something is the paper of two paths' sides and shows no pass."""

import unittest

from bent_reference import is_just_by, passes_by, sides_by
from bent_samples import SHEARS, along_a_row, sheared, some_paths
from cornerlines.papers import is_just
from cornerlines.paths import drawn
from cornerlines.sidechecks import sides_holds
from cornerlines.sides import sides_paper
from samples import some_lines
from things import GREAT, anything, keeps, nested, spoilt, spoilt_within

ROW = along_a_row(6)
# It touches the row at its left, then at its right, ends on it, and passes nowhere.
CALM = ((0, 1), (1, 0), (2, 1), (3, 0), (4, 0), (4, 1), (5, 0))
# It passes at one corner, and back along a link.
WILD = ((1, 1), (1, 0), (2, -1), (3, 0), (4, 0), (4, 1))


class SidesHoldsTest(unittest.TestCase):
    def tells(self, told, one, other, thing):
        self.assertIs(keeps(self, sides_holds, one, other, thing), told, (one, other, thing))

    def test_the_paper_without_a_pass(self):
        paper = ((1, 1, "left", "left"), (3, 4, "left", "left"), (5, 5, "end", "end"))
        self.assertEqual(sides_paper(ROW, CALM), paper)
        self.tells(True, ROW, CALM, paper)
        self.tells(True, ROW, ((9, 9),), ())
        self.tells(True, ROW, ROW, ((0, 5, "end", "end"),))
        self.tells(True, ROW, ((2, 5), (2, 0)), ((2, 2, "left", "end"),))
        self.tells(True, ROW, ((1, -1), (2, 0), (3, -1)), ((2, 2, "right", "right"),))

    def test_the_paper_with_a_pass(self):
        paper = ((1, 1, "left", "right"), (3, 4, "right", "left"))
        self.assertEqual(sides_paper(ROW, WILD), paper)
        self.tells(False, ROW, WILD, paper)
        for words in (("left", "right"), ("right", "left")):
            self.tells(False, ROW, WILD, (paper[0], (3, 4, *words)))
        cross = ((2, 1), (2, 0), (2, -1))
        self.tells(False, ROW, cross, ((2, 2, "left", "right"),))
        self.tells(False, ROW, cross[::-1], ((2, 2, "right", "left"),))

    def test_papers_that_hide_a_pass(self):
        for first in ("left", "right", "end"):
            for last in ("left", "right", "end"):
                self.tells(False, ROW, ((2, 1), (2, 0), (2, -1)), ((2, 2, first, last),))
        self.tells(False, ROW, WILD, ())
        self.tells(False, ROW, WILD, ((1, 1, "left", "left"), (3, 4, "left", "left")))
        self.tells(False, ROW, WILD, ((3, 4, "left", "left"),))

    def test_rows_parted_or_joined(self):
        self.tells(False, ROW, CALM, ((1, 1, "left", "left"), (3, 3, "left", "left"), (4, 4, "left", "left"), (5, 5, "end", "end")))
        self.tells(False, ROW, CALM, ((1, 1, "left", "left"), (3, 5, "left", "end")))
        self.tells(False, ROW, ROW, ((0, 2, "end", "end"), (3, 5, "end", "end")))
        self.tells(False, ROW, ROW, tuple((k, k, "end", "end") for k in range(6)))

    def test_anything_otherwise_at_any_depth(self):
        paper = sides_paper(ROW, CALM)
        for thing in (*spoilt_within(paper), *spoilt(paper)):
            self.tells(False, ROW, CALM, thing)
        row = ((0, 1, "end", "end"),)
        for thing in spoilt_within(row):
            self.tells(False, ((0, 0), (1, 0)), ((0, 0), (1, 0)), thing)
        for truth in ((False, 1), (0, True), (False, True)):
            self.tells(False, ((0, 0), (1, 0)), ((0, 0), (1, 0)), ((*truth, "end", "end"),))

    def test_anything_else(self):
        for thing in anything():
            self.tells(False, ROW, CALM, thing)
            self.tells(thing == () and isinstance(thing, tuple), ROW, ((9, 9),), thing)
            self.tells(False, ROW, ROW, (thing,))
            self.tells(False, ROW, ROW, ((0, 5, thing, "end"),))
            self.tells(False, ROW, ROW, ((0, thing, "end", "end"),))
        for kind in ("tuple", "list", "dict"):
            self.tells(False, ROW, ROW, ((0, 5, "end", nested(38, kind)),))
        self.tells(False, ROW, ROW, ((0, GREAT, "end", "end"),))

    def test_paths_of_one_plane(self):
        told = {True: 0, False: 0}
        papers = {}
        for seed in range(60):
            one, other = some_paths(2, 5, 20, seed)
            paper = sides_by(one, other)
            for rows in SHEARS:
                holds = sides_holds(*sheared((one, other), rows), sides_paper(*sheared((one, other), rows)))
                self.assertIs(holds, passes_by(one, other) == ())
            told[holds] += 1
            papers[seed] = paper
        self.assertGreater(min(told.values()), 10)
        for seed in range(60):
            one, other = some_paths(2, 5, 20, seed)
            for paper in papers.values():
                self.assertIs(sides_holds(one, other, paper), paper == papers[seed] and passes_by(one, other) == ())

    def test_drawings(self):
        for seed in range(3):
            corners, paths = drawn(10, tuple(some_lines(9, 50, seed)))
            for one in paths:
                for other in paths:
                    told = passes_by(one, other) == ()
                    self.assertIs(sides_holds(one, other, sides_by(one, other)), told)

    def test_sixty_corners(self):
        one = along_a_row(60)
        calm = tuple((i, i % 2) for i in range(60))
        self.tells(True, one, calm, sides_by(one, calm))
        self.tells(False, one, calm, sides_by(one, calm)[1:])
        wild = tuple((i, (0, 1, 0, -1)[i % 4]) for i in range(60))
        self.tells(False, one, wild, sides_by(one, wild))
        self.tells(True, one, one[::-1], ((0, 59, "end", "end"),))


class IsJustTest(unittest.TestCase):
    def test_what_was_told(self):
        for told in ((), (1,), ("a", (0, (1, 0), "b")), "a", 1, 0, ((), ((),))):
            self.assertIs(is_just(told, told), True)
            for thing in (*spoilt_within(told), *anything()):
                self.assertIs(is_just(thing, told), is_just_by(thing, told), (thing, told))


if __name__ == "__main__":
    unittest.main()

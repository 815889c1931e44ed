"""[11]: a paper of a line's path, and whether something is one."""

import unittest

from bent_reference import path_paper_by
from cornerlines.pathchecks import path_holds, path_paper
from cornerlines.paths import path_of
from reference import corner_by, meets_by, meets_paper_by, path_by, place_at, turned
from samples import DRAWINGS, GRAINS, MILLION, corners_about, some_lines
from things import GREAT, anything, keeps, nested, spoilt
from fractions import Fraction

LINE = ((0, 0), (40, 40))
CORNERS = ((0, 0), (0, 4), (2, 2), (3, 3), (4, 0), (4, 4))
PATH = ((0, 0), (2, 2), (3, 3), (4, 4))


def many_corners():
    """A line at the bounds, and a hundred corners, of which it meets about the half."""
    line = ((-MILLION, -MILLION), (MILLION, MILLION // 3))
    near = {corner_by(1000, *place_at(line, Fraction(k, 53))) for k in range(54)}
    beside = {(i + 1, j - 3) for i, j in near}
    return line, tuple(sorted(near | beside))[:100]


def told_otherwise(grain, line, corners):
    """A paper with other shares and other ways than the one that is told, where there are any."""
    parts = []
    for part in path_paper(grain, line, corners):
        word, *numbers = part
        parts.append((word, *(7 * number for number in numbers)))
    return tuple(parts)


class PathPaperTest(unittest.TestCase):
    def check(self, grain, line, corners):
        paper = keeps(self, path_paper, grain, line, corners)
        self.assertIs(type(paper), tuple)
        self.assertEqual(len(paper), len(corners))
        for corner, part in zip(corners, paper):
            self.assertTrue(meets_paper_by(grain, line, corner, part), (grain, line, corner, part))
            self.assertEqual(part[0], "meets" if meets_by(grain, line, corner) else "misses")
        path = path_by(grain, line, corners)
        self.assertTrue(path_paper_by(grain, line, corners, path, paper))
        self.assertIs(keeps(self, path_holds, grain, line, corners, path, paper), True)
        other = told_otherwise(grain, line, corners)
        self.assertTrue(path_paper_by(grain, line, corners, path, other))
        self.assertIs(path_holds(grain, line, corners, path, other), True)

    def test_of_no_corners(self):
        self.assertEqual(keeps(self, path_paper, 10, LINE, ()), ())
        self.assertIs(keeps(self, path_holds, 10, LINE, (), (), ()), True)
        for thing in ((PATH, ()), (((0, 0),), ()), ((), ((),)), ((), (("meets", 0, 1),)), ((), None), (None, ()), ((), [])):
            self.assertIs(path_holds(10, LINE, (), *thing), False)

    def test_some_corners(self):
        self.check(10, LINE, CORNERS)
        self.check(10, turned(LINE), CORNERS)
        self.check(10, LINE, CORNERS[1::3])

    def test_lines_of_drawings(self):
        for lines in DRAWINGS:
            for grain in GRAINS:
                for line in lines:
                    corners = tuple(sorted({corner_by(grain, *point) for other in lines for point in other}))
                    self.check(grain, line, corners)

    def test_all_corners_about(self):
        for grain, far in ((1, 2), (2, 5), (3, 7), (10, 20)):
            for line in some_lines(12, far, far):
                self.check(grain, line, corners_about(2))

    def test_a_hundred_corners(self):
        line, corners = many_corners()
        self.assertEqual(len(corners), 100)
        self.check(1000, line, corners)
        self.assertGreater(len(path_of(1000, line, corners)), 40)


class PathHoldsTest(unittest.TestCase):
    def tells(self, told, path, thing, grain=10, line=LINE, corners=CORNERS):
        self.assertIs(keeps(self, path_holds, grain, line, corners, path, thing), told, (path, thing))
        self.assertIs(path_paper_by(grain, line, corners, path, thing), told)

    def setUp(self):
        self.paper = path_paper(10, LINE, CORNERS)

    def test_just_the_path(self):
        self.tells(True, PATH, self.paper)
        wrong = (
            PATH[::-1], PATH[1:], PATH[:-1], PATH[:1] + PATH[2:], (), PATH[:1], PATH[1:] + PATH[:1], PATH[:-2] + PATH[:-3:-1],
            PATH + ((5, 5),), PATH + ((0, 4),), PATH[:1] + ((1, 1),) + PATH[1:], PATH + PATH[:1], PATH * 2, CORNERS,
            ((0, 4), (2, 2), (4, 0)), PATH[:1] * 4, PATH[:3] + ((4, 5),), ((0, 0), (3, 3), (2, 2), (4, 4)),
        )
        for path in wrong:
            self.tells(False, path, self.paper)

    def test_paths_of_other_lines(self):
        lines = some_lines(7, 25, 8) + [LINE, turned(LINE), ((1, 1), (41, 41))]
        corners = corners_about(2)
        alike = 0
        for line in lines:
            paper = path_paper(10, line, corners)
            for other in lines:
                path = path_of(10, other, corners)
                told = path == path_of(10, line, corners)
                self.assertIs(path_holds(10, line, corners, path, paper), told)
                alike += told
        self.assertEqual(alike, len(lines) + 2)

    def test_none_is_met(self):
        corners = ((0, 4), (4, 0))
        paper = path_paper(10, LINE, corners)
        self.tells(True, (), paper, corners=corners)
        for path in (((0, 4),), ((0, 0),), corners, [], None, "", 0, False, {}):
            self.tells(False, path, paper, corners=corners)

    def test_another_hands_paper(self):
        for k, m in ((0, 1), (0, 7), (1, 9), (GREAT // 9, GREAT)):
            self.tells(True, PATH, (("meets", k, m),) + self.paper[1:])
        for k, m in ((1, 8), (1, 5), (1, 1), (0, 0), (-1, 9), (0, -1), (9, 9)):
            self.tells(False, PATH, (("meets", k, m),) + self.paper[1:])
        for told, way in ((True, (1, -1, 0)), (True, (3, -3, -1)), (False, (-1, 1, -1)), (False, (1, -1, 1)), (False, (0, 0, 0))):
            self.tells(told, PATH, self.paper[:1] + (("misses", *way),) + self.paper[2:])

    def test_a_met_corner_told_as_missed(self):
        self.tells(False, PATH[:2] + PATH[3:], self.paper[:3] + (self.paper[1],) + self.paper[4:])
        self.tells(False, PATH[:2] + PATH[3:], self.paper[:3] + (("misses", 0, 0, 0),) + self.paper[4:])
        self.tells(False, PATH, self.paper[:1] + (self.paper[2],) + self.paper[2:])

    def test_parts_exchanged_left_out_or_more(self):
        for k in range(len(self.paper)):
            self.tells(False, PATH, self.paper[:k] + self.paper[k + 1:])
            self.tells(False, PATH, self.paper[:k] + self.paper[k:k + 1] + self.paper[k:])
            for l in range(k):
                paper = list(self.paper)
                paper[k], paper[l] = paper[l], paper[k]
                self.tells(self.paper[k] == self.paper[l], PATH, tuple(paper))
        self.tells(False, PATH, self.paper + (("misses", 1, 0, 10),))
        self.tells(False, PATH, ())

    def test_spoilt_papers(self):
        for thing in spoilt(self.paper):
            self.tells(False, PATH, thing)
        for k, part in enumerate(self.paper):
            for thing in spoilt(part):
                self.tells(False, PATH, self.paper[:k] + (thing,) + self.paper[k + 1:])

    def test_spoilt_paths(self):
        for path in spoilt(PATH):
            self.tells(False, path, self.paper)
        for k, corner in enumerate(PATH):
            for thing in spoilt(corner):
                self.tells(False, PATH[:k] + (thing,) + PATH[k + 1:], self.paper)
        line, corners = ((0, 0), (10, 0)), ((0, 0), (1, 0))
        paper = path_paper(10, line, corners)
        for path in (((0, 0), (True, 0)), ((False, 0), (1, 0)), ((0, 0), (1, False)), ([0, 0], (1, 0)), [(0, 0), (1, 0)]):
            self.tells(False, path, paper, line=line, corners=corners)

    def test_anything_else(self):
        for thing in anything():
            self.tells(False, PATH, thing)
            self.tells(False, thing, self.paper)
            self.tells(False, thing, thing)
            self.tells(False, PATH, self.paper[:2] + (thing,) + self.paper[3:])
            self.tells(False, PATH[:2] + (thing,) + PATH[3:], self.paper)
        for kind in ("tuple", "list", "dict"):
            self.tells(False, PATH, (*self.paper[:5], nested(39, kind)))
            self.tells(False, (*PATH[:3], (4, nested(38, kind))), self.paper)
        self.tells(False, PATH[:3] + ((GREAT, GREAT),), self.paper)


if __name__ == "__main__":
    unittest.main()

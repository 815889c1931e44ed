"""[11], and of [3] what speaks of corners and paths."""

import unittest
from fractions import Fraction

from cornerlines.paths import drawn, is_path, path_of
from cornerlines.texts import read_paths, show_paths
from cornerlines.wants import corners_of
from reference import corner_by, path_by, place_at, shares_by, turned, wants_by
from samples import DRAWINGS, GRAINS, MILLION, corners_about, some_lines, turned_round
from things import GREAT, anything, keeps, nested


class IsPathTest(unittest.TestCase):
    def tells(self, told, things):
        for thing in things:
            self.assertIs(keeps(self, is_path, thing), told, repr(thing)[:80])

    def test_paths(self):
        long = tuple((k, -k) for k in range(3000))
        self.tells(True, (((0, 0),), ((0, 0), (1, 1)), ((5, 5), (0, 0), (5, 4)), ((GREAT, -GREAT), (0, 0)), long))
        self.tells(True, (((0, 1), (1, 0)), ((0, 0), (9, 9))))

    def test_what_is_no_path(self):
        wrong = (
            (), ((0, 0), (0, 0)), ((0, 0), (1, 1), (0, 0)), [(0, 0)], ([0, 0],), ((0, 0), [1, 1]), ((0, True),), ((False, 0),),
            ((0, 0), (1, True)), ((0,),), ((0, 0, 0),), ((0, 0), (1, 1, 1)), ((0, 0), None), ((0, 0), ()), (0, 0), ((0, "0"),),
            {(0, 0): (1, 1)}, (((0, 0),),), ((0, 0), (1, [])), ((0, 0), (1, {})), tuple((k, 0) for k in range(60)) + ((3, 0),),
            ((GREAT, 0), (GREAT, 0)), ("00",), ("00", "11"), None, "", 0, True,
        )
        self.tells(False, wrong)
        self.tells(False, anything())
        for kind in ("tuple", "list", "dict"):
            self.tells(False, ((nested(39, kind),), ((0, 0), (nested(38, kind), 0)), ((0, 0), nested(39, kind))))


class PathOfTest(unittest.TestCase):
    def test_by_no_corners(self):
        self.assertEqual(keeps(self, path_of, 10, ((0, 0), (40, 0)), ()), ())

    def test_where_none_is_met(self):
        self.assertEqual(keeps(self, path_of, 10, ((0, 0), (40, 0)), ((0, 1), (2, -1), (5, 0))), ())

    def test_just_those_that_are_met(self):
        corners = ((-1, 0), (0, 0), (1, 1), (2, 0), (4, 0), (5, 0))
        self.assertEqual(keeps(self, path_of, 10, ((0, 0), (40, 0)), corners), ((0, 0), (2, 0), (4, 0)))
        self.assertEqual(path_of(10, ((40, 0), (0, 0)), corners), ((4, 0), (2, 0), (0, 0)))
        self.assertEqual(path_of(10, ((14, 0), (31, 0)), corners), ((2, 0),))

    def test_along_each_way(self):
        about = corners_about(3)
        self.assertEqual(path_of(1, ((0, 0), (3, 0)), about), ((0, 0), (1, 0), (2, 0), (3, 0)))
        self.assertEqual(path_of(1, ((0, 0), (-3, 0)), about), ((0, 0), (-1, 0), (-2, 0), (-3, 0)))
        self.assertEqual(path_of(1, ((0, 0), (0, 2)), about), ((0, 0), (0, 1), (0, 2)))
        self.assertEqual(path_of(1, ((0, 0), (0, -2)), about), ((0, 0), (0, -1), (0, -2)))
        self.assertEqual(path_of(1, ((0, 0), (2, 2)), about), ((0, 0), (1, 1), (2, 2)))
        self.assertEqual(path_of(1, ((2, 2), (0, 0)), about), ((2, 2), (1, 1), (0, 0)))
        self.assertEqual(path_of(1, ((0, 2), (2, 0)), about), ((0, 2), (1, 2), (1, 1), (2, 1), (2, 0)))
        self.assertEqual(path_of(1, ((2, 0), (0, 2)), about), ((2, 0), (2, 1), (1, 1), (1, 2), (0, 2)))
        self.assertEqual(path_of(1, ((0, 0), (3, 1)), about), ((0, 0), (1, 0), (2, 1), (3, 1)))
        self.assertEqual(path_of(1, ((0, 0), (-1, 3)), about), ((0, 0), (0, 1), (0, 2), (-1, 2), (-1, 3)))
        self.assertEqual(path_of(1, ((0, 0), (1, -3)), about), ((0, 0), (0, -1), (1, -1), (1, -2), (1, -3)))

    def check(self, grain, line, corners):
        path = path_of(grain, line, corners)
        self.assertEqual(path, path_by(grain, line, corners))
        self.assertEqual(path[::-1], path_of(grain, turned(line), corners))
        (x, y), (far_x, far_y) = line
        for (i, j), (far_i, far_j) in zip(path, path[1:]):
            self.assertGreaterEqual((far_i - i) * (far_x - x), 0)
            self.assertGreaterEqual((far_j - j) * (far_y - y), 0)

    def test_by_all_corners_about(self):
        for grain in (1, 2, 3, 10):
            for line in some_lines(40, 2 * grain + 1, grain):
                self.check(grain, line, corners_about(2))

    def test_by_some_corners(self):
        about = corners_about(4)
        for seed in range(6):
            for line in some_lines(20, 40, seed):
                self.check(10, line, about[seed::3])

    def test_a_hundred_corners(self):
        line = ((-MILLION, -MILLION), (MILLION, MILLION // 3))
        corners = tuple(sorted(corner_by(1000, *place_at(line, Fraction(k, 50))) for k in range(50)))
        corners = tuple(sorted(set(corners + tuple((i, j + 1) for i, j in corners))))
        self.check(1000, line, corners)
        self.assertGreaterEqual(len(path_of(1000, line, corners)), 50)


class DrawnTest(unittest.TestCase):
    def check(self, grain, lines):
        corners, paths = drawn(grain, lines)
        self.assertEqual(corners, tuple(corner for corner, wants in wants_by(grain, lines)))
        self.assertEqual(corners, corners_of(grain, lines))
        self.assertEqual(len(paths), len(lines))
        for line, path in zip(lines, paths):
            self.assertIs(is_path(path), True)
            self.assertEqual(path, path_by(grain, line, corners))
            self.assertEqual(path[0], corner_by(grain, *line[0]))
            self.assertEqual(path[-1], corner_by(grain, *line[1]))
            for i, j in path:
                x, y = place_at(line, shares_by(grain, line, (i, j))[0])
                self.assertLessEqual(max(abs(x / grain - i), abs(y / grain - j)), Fraction(1, 2))
        self.assertEqual(read_paths(show_paths(paths)), paths)
        return corners, paths

    def test_no_lines(self):
        self.assertEqual(keeps(self, drawn, 10, ()), ((), ()))

    def test_one_line(self):
        self.assertEqual(keeps(self, drawn, 10, (((0, 0), (57, 33)),)), (((0, 0), (6, 3)), (((0, 0), (6, 3)),)))
        self.assertEqual(drawn(10, (((57, 33), (0, 0)),)), (((0, 0), (6, 3)), (((6, 3), (0, 0)),)))

    def test_a_line_within_one_cell(self):
        self.assertEqual(drawn(10, (((1, 1), (-2, 3)),)), (((0, 0),), (((0, 0),),)))

    def test_lines_across(self):
        lines = (((0, 0), (57, 33)), ((5, 40), (50, -10)))
        corners = ((0, 0), (1, 4), (3, 2), (5, -1), (6, 3))
        paths = (((0, 0), (3, 2), (6, 3)), ((1, 4), (3, 2), (5, -1)))
        self.assertEqual(keeps(self, drawn, 10, lines), (corners, paths))

    def test_a_line_is_bent_through_the_ends_of_others(self):
        lines = (((0, 0), (40, 0)), ((20, 4), (20, 90)), ((10, -50), (10, -6)))
        corners, paths = drawn(10, lines)
        self.assertEqual(paths, (((0, 0), (2, 0), (4, 0)), ((2, 0), (2, 9)), ((1, -5), (1, -1))))
        self.assertEqual(corners, ((0, 0), (1, -5), (1, -1), (2, 0), (2, 9), (4, 0)))

    def test_alike_lines(self):
        lines = (((0, 0), (40, 0)),) * 3 + (((40, 0), (0, 0)),)
        told = (((0, 0), (4, 0)), (((0, 0), (4, 0)),) * 3 + (((4, 0), (0, 0)),))
        self.assertEqual(drawn(10, lines), told)

    def test_drawings(self):
        for lines in DRAWINGS:
            for grain in GRAINS:
                told = keeps(self, drawn, grain, lines)
                self.assertEqual(told, self.check(grain, lines))
                corners, paths = drawn(grain, turned_round(lines))
                self.assertEqual((corners, tuple(path[::-1] for path in reversed(paths))), told)

    def test_twelve_lines(self):
        for grain, far in ((10, 40), (7, 30), (1, 3), (1000, 5000), (1000, MILLION)):
            self.check(grain, tuple(some_lines(12, far, far)))

    def test_what_was_told_is_handed_in_again(self):
        corners, paths = drawn(10, DRAWINGS[3])
        links = tuple(pair for path in paths for pair in zip(path, path[1:]))
        self.check(1, links)
        self.assertEqual(path_of(1, links[0], corners), path_by(1, links[0], corners))
        far = 10 ** 24
        great = (((-far, -far), (far, far)), ((-far, far), (far, 1 - far)), ((0, far), (1, -far)))
        self.check(1, great)


if __name__ == "__main__":
    unittest.main()

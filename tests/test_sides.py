"""[15] and, of [16], the paper: how two paths pass one another; of [3] what speaks of passes."""

import unittest

from bent_reference import passes_by, sides_by, stretches_by
from bent_samples import MIRROR, MOVED, QUARTER, SHEARS, along_a_row, gone_back, sheared, some_paths
from cornerlines.paths import drawn
from cornerlines.sides import passes, sides_paper, stretches
from reference import common_by
from samples import DRAWINGS, GRAINS, MILLION, some_lines
from things import keeps

ROW = along_a_row(5)
OTHER_HAND = {"left": "right", "right": "left", "end": "end"}


def mirrored(rows):
    """A paper with left for right."""
    return tuple((i, j, OTHER_HAND[first], OTHER_HAND[last]) for i, j, first, last in rows)


def from_behind(rows, many):
    """The paper of a path of so many corners, gone the other way; the other path as it was, or too."""
    return tuple((many - 1 - j, many - 1 - i, OTHER_HAND[last], OTHER_HAND[first]) for i, j, first, last in rows[::-1])


def twisted(rows):
    """The paper with the other path from behind."""
    return tuple((i, j, last, first) if i == j else (i, j, first, last) for i, j, first, last in rows)


class SidesTest(unittest.TestCase):
    def tells(self, told, one, other):
        self.assertEqual(keeps(self, sides_paper, one, other), told)
        self.check(one, other)

    def check(self, one, other):
        rows = sides_paper(one, other)
        self.assertEqual(rows, sides_by(one, other), (one, other))
        self.assertEqual(keeps(self, stretches, one, other), tuple(row[:2] for row in rows))
        self.assertEqual(stretches(one, other), stretches_by(one, other))
        told = tuple(row[:2] for row in rows if set(row[2:]) == {"left", "right"})
        self.assertEqual(keeps(self, passes, one, other), told)
        self.assertEqual(sides_paper(one, other[::-1]), twisted(rows))
        self.assertEqual(sides_paper(one[::-1], other[::-1]), from_behind(twisted(twisted(rows)), len(one)))
        self.assertEqual(len(passes(one[::-1], other)), len(told))
        self.assertEqual(len(passes(other, one)), len(told))
        return len(told)

    def test_no_corner_in_common(self):
        self.tells((), ROW, ((0, 1), (4, 1)))
        self.tells((), ((0, 0),), ((1, 0),))

    def test_one_corner_that_is_a_pass(self):
        self.tells(((2, 2, "left", "right"),), ROW, ((2, 1), (2, 0), (2, -1)))
        self.tells(((2, 2, "right", "left"),), ROW, ((2, -1), (2, 0), (2, 1)))
        self.tells(((1, 1, "left", "right"),), ROW, ((9, 1), (1, 0), (9, -1)))
        self.assertEqual(passes(ROW, ((2, 1), (2, 0), (2, -1))), ((2, 2),))

    def test_one_corner_that_is_none(self):
        self.tells(((2, 2, "left", "left"),), ROW, ((1, 1), (2, 0), (3, 1)))
        self.tells(((2, 2, "right", "right"),), ROW, ((3, -1), (2, 0), (1, -1)))
        self.assertEqual(passes(ROW, ((1, 1), (2, 0), (3, 1))), ())

    def test_where_the_other_path_ends(self):
        self.tells(((2, 2, "end", "left"),), ROW, ((2, 0), (2, 1)))
        self.tells(((2, 2, "left", "end"),), ROW, ((2, 1), (2, 0)))
        self.tells(((2, 2, "right", "end"),), ROW, ((2, -1), (2, 0)))
        self.tells(((3, 3, "end", "end"),), ROW, ((3, 0),))
        self.tells(((1, 2, "end", "right"),), ROW, ((1, 0), (2, 0), (2, -1)))
        self.tells(((1, 2, "end", "right"),), ROW, ((2, -1), (2, 0), (1, 0)))
        self.tells(((1, 3, "end", "end"),), ROW, ((3, 0), (2, 0), (1, 0)))

    def test_where_the_one_ends(self):
        self.tells(((0, 0, "end", "end"),), ROW, ((0, 1), (0, 0), (0, -1)))
        self.tells(((4, 4, "end", "end"),), ROW, ((4, 1), (4, 0), (4, -1)))
        self.tells(((0, 2, "end", "right"),), ROW, ((0, 1), (0, 0), (1, 0), (2, 0), (2, -1)))
        self.tells(((3, 4, "left", "end"),), ROW, ((5, -1), (4, 0), (3, 0), (3, 1)))
        self.tells(((0, 0, "end", "end"),), ((0, 0),), ((0, 1), (0, 0), (0, -1)))
        self.tells(((0, 0, "end", "end"),), ((0, 0),), ((0, 0),))

    def test_a_longer_stretch(self):
        self.tells(((1, 3, "left", "right"),), ROW, ((1, 1), (1, 0), (2, 0), (3, 0), (3, -1)))
        self.tells(((1, 3, "left", "right"),), ROW, ((3, -1), (3, 0), (2, 0), (1, 0), (1, 1)))
        self.tells(((1, 3, "right", "right"),), ROW, ((1, -1), (1, 0), (2, 0), (3, 0), (3, -1)))
        self.tells(((1, 2, "right", "left"),), ROW, ((1, -1), (1, 0), (2, 0), (3, 1)))
        self.assertEqual(passes(ROW, ((3, -1), (3, 0), (2, 0), (1, 0), (1, 1))), ((1, 3),))

    def test_a_path_and_itself(self):
        for path in (ROW, ((0, 0),), ((0, 0), (3, 1)), *some_paths(4, 5, 20, 1)):
            self.tells(((0, len(path) - 1, "end", "end"),), path, path)
            self.tells(((0, len(path) - 1, "end", "end"),), path, path[::-1])

    def test_several(self):
        other = ((0, 1), (0, 0), (1, 1), (1, 0), (2, 0), (2, -1), (3, 0), (4, 1), (4, 0))
        told = ((0, 0, "end", "end"), (1, 2, "left", "right"), (3, 3, "right", "left"), (4, 4, "end", "end"))
        self.tells(told, ROW, other)
        self.assertEqual(stretches(ROW, other), ((0, 0), (1, 2), (3, 3), (4, 4)))
        self.assertEqual(passes(ROW, other), ((1, 2), (3, 3)))
        other = ((0, 0), (1, 5), (2, 0), (3, 5), (4, 0))
        self.tells(((0, 0, "end", "end"), (2, 2, "left", "left"), (4, 4, "end", "end")), ROW, other)

    def test_neighbours_in_the_one_alone(self):
        # Both have the corners (1, 0) and (2, 0), but only the one has their link.
        told = ((1, 1, "left", "left"), (2, 2, "left", "left"))
        self.tells(told, ROW, ((1, 1), (1, 0), (2, 1), (2, 0), (3, 1)))
        told = ((1, 1, "right", "left"), (2, 2, "left", "right"))
        self.tells(told, ROW, ((1, -1), (1, 0), (1, 1), (2, 1), (2, 0), (2, -1)))

    def test_neighbours_in_the_other_alone(self):
        one = ((0, 0), (1, 0), (1, 1), (2, 0), (3, 0))
        self.tells(((0, 1, "end", "right"), (3, 4, "right", "end")), one, along_a_row(4))

    def test_sharp_turns(self):
        sharp = ((10, 1), (0, 0), (10, -1))
        self.tells(((1, 1, "left", "right"),), sharp, ((9, 0), (0, 0), (-9, 0)))
        self.tells(((1, 1, "right", "left"),), sharp[::-1], ((9, 0), (0, 0), (-9, 0)))
        self.tells(((1, 1, "right", "right"),), sharp, ((-9, 0), (0, 0), (0, 5)))
        self.tells(((1, 1, "left", "left"),), sharp[::-1], ((-10, -1), (0, 0), (-10, 1)))
        self.tells(((1, 1, "left", "right"),), ((0, 5), (0, 0), (5, 0)), ((3, 3), (0, 0), (-3, -3)))
        self.tells(((1, 1, "left", "left"),), ((5, 0), (0, 0), (0, 5)), ((-3, 3), (0, 0), (4, -1)))

    def test_all_ways_round_a_corner(self):
        ways = ((1, 0), (2, 1), (1, 1), (0, 1), (-1, 1), (-1, 0), (-1, -1), (-1, -2), (0, -1), (1, -1))
        rest = [(a, b, c, d) for a in ways for b in ways for c in ways for d in ways if len({a, b, c, d}) == 4]
        for a, b, c, d in rest:
            one, other = (a, (0, 0), b), (c, (0, 0), d)
            self.assertEqual(sides_paper(one, other), sides_by(one, other), (one, other))

    def test_paths_of_one_plane(self):
        found = 0
        for seed in range(120):
            one, other = some_paths(2, 5, 20, seed)
            found += self.check(one, other)
        self.assertGreater(found, 30)

    def test_turned_moved_and_mirrored(self):
        for seed in range(40):
            paths = some_paths(2, 5, 20, seed)
            told = sides_paper(*paths)
            for rows in (QUARTER, MOVED):
                self.assertEqual(sides_paper(*sheared(paths, rows)), told)
            self.assertEqual(sides_paper(*sheared(paths, MIRROR)), mirrored(told))
            for rows in SHEARS:
                self.check(*sheared(paths, rows))

    def test_sixty_corners(self):
        one = along_a_row(60)
        other = tuple((i, (0, 1, 0, -1)[i % 4]) for i in range(60))
        rows = keeps(self, sides_paper, one, other)
        self.assertEqual(rows, sides_by(one, other))
        self.assertEqual(passes(one, other), tuple((k, k) for k in range(2, 59, 2)))
        self.assertEqual(stretches(one, one), ((0, 59),))

    def test_at_the_bounds(self):
        one = ((-MILLION, -MILLION), (0, 0), (MILLION, MILLION))
        self.tells(((1, 1, "left", "right"),), one, ((MILLION - 1, MILLION), (0, 0), (MILLION, MILLION - 1)))
        self.tells(((1, 1, "right", "left"),), one, ((1 - MILLION, -MILLION), (0, 0), (-MILLION, 1 - MILLION)))
        self.tells(((1, 1, "left", "left"),), one, ((MILLION - 1, MILLION), (0, 0), (-MILLION, 1 - MILLION)))


class DrawingsTest(unittest.TestCase):
    def check(self, grain, lines):
        corners, paths = drawn(grain, lines)
        found = 0
        for k, one in enumerate(paths):
            for l, other in enumerate(paths[:k]):
                told = passes(one, other)
                self.assertEqual(told, passes_by(one, other), (grain, lines, k, l))
                places = common_by(lines[k], lines[l])
                ends = lines[k] + lines[l]
                most = 1 if len(places) == 1 and places[0] not in ends else 0
                self.assertLessEqual(len(told), most, (grain, lines, k, l))
                found += len(told)
        return found

    def test_drawings(self):
        self.assertGreater(sum(self.check(grain, lines) for lines in DRAWINGS for grain in GRAINS), 10)

    def test_twelve_lines(self):
        found = 0
        for seed in range(6):
            for grain, far in ((1, 3), (2, 7), (10, 40), (1000, MILLION)):
                found += self.check(grain, tuple(some_lines(12, far, seed)))
        self.assertGreater(found, 100)

    def test_lines_that_cross(self):
        corners, paths = drawn(10, (((0, 0), (40, 40)), ((0, 40), (40, 0))))
        self.assertEqual(passes(*paths), ((1, 1),))
        self.assertEqual(sides_paper(*paths), ((1, 1, "left", "right"),))
        corners, paths = drawn(10, (((0, 0), (40, 0)), ((20, 0), (20, 40))))
        self.assertEqual(sides_paper(*paths), ((1, 1, "end", "left"),))
        corners, paths = drawn(10, (((0, 0), (40, 0)), ((10, 0), (80, 0))))
        self.assertEqual(sides_paper(*paths), ((1, 2, "end", "end"),))

    def test_gone_back(self):
        for seed in range(4):
            corners, paths = drawn(10, tuple(some_lines(8, 60, seed)))
            back = gone_back(paths)
            for k in range(8):
                for l in range(k):
                    many = len(passes(paths[k], paths[l]))
                    self.assertEqual([len(passes(back[k], paths[l])), len(passes(paths[l], back[k]))], [many] * 2)


if __name__ == "__main__":
    unittest.main()

"""[20]: where lines leave the cell of a corner; of [3] what speaks of the order round each corner."""

import unittest

from bent_reference import leavings_by, round_by
from cornerlines.leaving import leavings
from cornerlines.paths import drawn
from reference import corner_by
from samples import DRAWINGS, GRAINS, MILLION, some_lines, turned_round
from things import keeps


def less_neighbours(rows):
    """The rows without alike neighbours, of which the first is the last one's."""
    told = [row for k, row in enumerate(rows) if k == 0 or rows[k - 1] != row]
    while len(told) > 1 and told[0] == told[-1]:
        told.pop()
    return tuple(told)


class LeavingTest(unittest.TestCase):
    """By the grain 10, round the corner (0, 0), whose cell is from -5 to 5."""

    def tells(self, told, *lines):
        self.assertEqual(keeps(self, leavings, 10, lines, (0, 0)), told)
        self.check(10, lines, (0, 0))

    def leave(self, told, *lines):
        """The numbers of the lines and their ways alone, of lines that go unlike ways, in either order."""
        self.assertEqual([row[:2] for row in leavings(10, lines, (0, 0))], told)
        self.check(10, lines, (0, 0))
        last = len(lines) - 1
        back = [row[:2] for row in leavings(10, lines[::-1], (0, 0))]
        self.assertEqual([(last - k, way) for k, way in back], told)
        self.check(10, lines[::-1], (0, 0))

    def check(self, grain, lines, corner):
        told = leavings(grain, lines, corner)
        self.assertEqual(told, leavings_by(grain, lines, corner), (grain, lines, corner))
        corners, paths = drawn(grain, lines)
        order = round_by(paths, corner)
        third = less_neighbours([row[2] for row in told])
        self.assertIn(third, [order[k:] + order[:k] for k in range(len(order) or 1)], (grain, lines, corner))
        back = tuple((k, 1 - way, further) for k, way, further in told)
        self.assertEqual(leavings(grain, tuple(line[::-1] for line in lines), corner), back)

    def test_one_line(self):
        self.tells(((0, 0, (4, 0)),), ((0, 0), (40, 0)))
        self.tells(((0, 1, (4, 0)),), ((40, 0), (0, 0)))
        self.tells(((0, 0, (0, -4)), (0, 1, (0, 4))), ((0, 40), (0, -40)), ((0, 0), (1, 1)))

    def test_a_line_within_the_cell(self):
        self.tells((), ((1, 1), (-2, 3)))
        self.tells((), ((1, 1), (-2, 3)), ((-4, -4), (-5, -5)))

    def test_lines_that_end_in_the_cell(self):
        self.tells(((1, 1, (0, 4)), (0, 1, (-4, 0))), ((-40, 0), (4, 0)), ((0, 40), (0, -5)))
        self.tells(((0, 1, (-4, 0)),), ((-40, 0), (4, 0)), ((0, 4), (1, 4)))

    def test_lines_that_do_not_meet_the_cell(self):
        self.tells(((0, 0, (4, 0)),), ((0, 0), (40, 0)), ((-40, 30), (40, 30)), ((-40, 5), (30, 5)))

    def test_the_corner_to_which_it_goes_on(self):
        lines = (((-40, 0), (40, 0)), ((0, 0), (0, 40)), ((20, 3), (20, 40)), ((-20, 3), (-20, 40)))
        self.tells(((0, 0, (2, 0)), (1, 0, (0, 4)), (0, 1, (-2, 0))), *lines)

    def test_round_the_rim_from_its_lower_left_point_on(self):
        ends = (
            (-40, -40), (-20, -40), (0, -40), (20, -40), (40, -40), (40, -20), (40, 0), (40, 20), (40, 40), (20, 40), (0, 40),
            (-20, 40),
        )
        lines = [((0, 0), end) for end in ends]
        told = tuple((k, 0, corner_by(10, *end)) for k, end in enumerate(ends))
        self.tells(told, *lines)
        self.tells(tuple((11 - k, 0, corner_by(10, *ends[k])) for k in range(12)), *lines[::-1])
        left = [((0, 0), end) for end in ((-30, 30), (-30, 20), (-30, 0), (-30, -20), (-30, -29), (-30, -30), (-29, -30))]
        self.leave([(5, 0), (6, 0), (0, 0), (1, 0), (2, 0), (3, 0), (4, 0)], *left)

    def test_the_four_outermost_points(self):
        lines = [((0, 0), (x, y)) for x in (-40, 40) for y in (-40, 40)]
        self.tells(((0, 0, (-4, -4)), (2, 0, (4, -4)), (3, 0, (4, 4)), (1, 0, (-4, 4))), *lines)
        across = (((-40, -40), (40, 40)), ((-40, 40), (40, -40)))
        self.tells(((0, 1, (-4, -4)), (1, 0, (4, -4)), (0, 0, (4, 4)), (1, 1, (-4, 4))), *across)

    def test_the_middles_of_the_sides(self):
        lines = (((-40, 0), (40, 0)), ((0, -40), (0, 40)))
        self.tells(((1, 1, (0, -4)), (0, 0, (4, 0)), (1, 0, (0, 4)), (0, 1, (-4, 0))), *lines)

    def test_along_a_side(self):
        inside = ((0, 0), (1, 1))
        self.tells(((0, 1, (-4, 0)), (0, 0, (4, 0))), ((-40, -5), (40, -5)), inside)
        self.tells(((0, 1, (0, -4)), (0, 0, (0, 4))), ((-5, -40), (-5, 40)), inside)
        # These lie on sides that the cell hasn't.
        self.tells((), ((-40, 5), (40, 5)), inside)
        self.tells((), ((5, -40), (5, 40)), inside)

    def test_an_end_on_the_rim(self):
        # Such an end lies in another cell, and the line has no point beyond it.
        self.tells(((0, 0, (1, 0)),), ((0, 0), (5, 0)))
        self.tells(((0, 0, (0, 1)),), ((0, 0), (0, 5)))
        self.tells(((0, 0, (1, 1)),), ((0, 0), (5, 5)))
        self.tells(((0, 0, (1, 0)),), ((-5, -5), (5, -5)))
        self.tells((), ((0, 0), (-5, 0)))
        self.tells((), ((0, 0), (0, -5)))
        self.tells(((1, 0, (1, 0)), (0, 0, (1, 0)), (2, 0, (1, 1))), ((0, 0), (5, 0)), ((0, 0), (29, -1)), ((0, 0), (5, 5)))

    def test_at_one_point_alone(self):
        # The cell has its lower left point, and of these lines nothing else.
        inside = ((0, 0), (1, 1))
        self.tells(((0, 1, (-4, 3)), (0, 0, (3, -4))), ((-40, 30), (30, -40)), inside)
        self.tells(((0, 0, (-1, -3)),), ((-5, -5), (-6, -30)), inside)
        self.tells(((0, 0, (-3, -1)), (1, 0, (-3, -3)), (2, 0, (-1, -3))),
                   ((-5, -5), (-30, -6)), ((-5, -5), (-30, -30)), ((-5, -5), (-6, -30)), inside)

    def test_at_one_point_in_the_cell(self):
        # From upward on against the clock: to the left, down, to the right.
        self.leave([(0, 0), (1, 0), (2, 0)], *[((-x, 3), (5 * x, -45)) for x in (-4, 0, 4)])
        # From the right on against the clock: up, to the left, down.
        self.leave([(0, 0), (1, 0), (2, 0)], *[((3, -y), (-45, 5 * y)) for y in (4, 0, -4)])

    def test_at_one_point_not_in_the_cell(self):
        # From downward on with the clock: to the left, up, to the right.
        self.leave([(0, 0), (1, 0), (2, 0)], *[((-x, 3), (19 * x, 43)) for x in (-2, 0, 2)])
        # From the left on with the clock: up, to the right, down.
        self.leave([(0, 0), (1, 0), (2, 0)], *[((3, -y), (43, 19 * y)) for y in (2, 0, -2)])
        # From the left and upward on with the clock: along the side, then further downward.
        self.leave([(0, 0), (1, 0), (2, 0)], ((-5, -5), (45, -5)), ((0, -4), (50, -14)), ((4, -4), (30, -30)))

    def test_lines_that_go_one_way(self):
        line = ((0, 0), (40, 0))
        self.tells(((0, 0, (4, 0)), (1, 1, (4, 0)), (2, 0, (4, 0))), line, line[::-1], line)
        self.tells(((0, 1, (4, 0)), (1, 0, (4, 0)), (2, 0, (4, 0))), line[::-1], line, ((-3, 0), (80, 0)))
        both = ((-40, 0), (40, 0))
        told = ((0, 0, (4, 0)), (1, 0, (4, 0)), (2, 1, (4, 0)), (0, 1, (-4, 0)), (1, 1, (-4, 0)), (2, 0, (-4, 0)))
        self.tells(told, both, both, both[::-1], ((0, 0), (0, 1)))

    def test_all_small_lines_out_of_the_cell(self):
        points = [(x, y) for x in range(-3, 4) for y in range(-3, 4)]
        inside = ((0, 0), (-1, -1))
        for a in points[::4]:
            lines = tuple((a, b) for b in points[len(points) % 5::5] if b != a)
            for k in range(0, len(lines), 11):
                self.check(2, (inside, *lines[k:k + 11]), (0, 0))
                self.check(3, (inside, *lines[k:k + 11]), (0, 0))


class DrawingsTest(unittest.TestCase):
    def check(self, grain, lines):
        corners, paths = drawn(grain, lines)
        for corner in corners:
            told = leavings(grain, lines, corner)
            self.assertEqual(told, leavings_by(grain, lines, corner), (grain, lines, corner))
            order = round_by(paths, corner)
            third = less_neighbours([row[2] for row in told])
            self.assertIn(third, [order[k:] + order[:k] for k in range(len(order) or 1)], (grain, lines, corner))
            for k, way, further in told:
                path = paths[k] if way == 0 else paths[k][::-1]
                self.assertEqual(path[path.index(corner) + 1], further)
            many = sum((corner in path[:-1]) + (corner in path[1:]) for path in paths)
            self.assertEqual(len(told), many)

    def test_drawings(self):
        for lines in DRAWINGS:
            for grain in GRAINS:
                self.check(grain, lines)
                self.check(grain, turned_round(lines))

    def test_small_lines(self):
        for seed in range(12):
            for grain, far in ((1, 1), (1, 2), (2, 3), (3, 4), (4, 9)):
                self.check(grain, tuple(some_lines(5, far, seed)))

    def test_twelve_lines(self):
        for grain, far in ((1, 3), (2, 5), (10, 40), (1000, MILLION)):
            self.check(grain, tuple(some_lines(12, far, far + grain)))

    def test_twelve_lines_round_one_corner(self):
        lines = tuple(((-x, -y), (x, y)) for (x, y), other in some_lines(12, 40, 8))
        self.check(10, lines)
        self.assertGreater(len(leavings(10, lines, (0, 0))), 16)

    def test_told_otherwise(self):
        for seed in range(4):
            lines = tuple(some_lines(7, 30, seed))
            for corner in drawn(10, lines)[0]:
                told = keeps(self, leavings, 10, lines, corner)
                great = tuple(tuple((7 * x, 7 * y) for x, y in line) for line in lines)
                self.assertEqual(leavings(70, great, corner), told)
                moved = tuple(tuple((x + 30, y - 990) for x, y in line) for line in lines)
                corners = tuple((k, way, (i + 3, j - 99)) for k, way, (i, j) in told)
                self.assertEqual(leavings(10, moved, (corner[0] + 3, corner[1] - 99)), corners)
                back = tuple((6 - k, 1 - way, further) for k, way, further in told)
                self.assertEqual(sorted(leavings(10, turned_round(lines), corner)), sorted(back))

    def test_at_the_bounds(self):
        far = MILLION
        lines = (((-far, -far), (far, far)), ((-far, far), (far, -far)), ((-far, 0), (far, 1)), ((0, far), (1, -far)))
        self.check(1, lines)
        self.check(1000, lines)
        told = leavings(1, lines, (far, far))
        self.assertEqual(told, ((0, 1, drawn(1, lines)[1][0][-2]),))


if __name__ == "__main__":
    unittest.main()

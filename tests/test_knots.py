"""[23]: knots, where lines end or have something in common, and the pieces between them."""

import unittest
from itertools import combinations

from cornerlines.crossing import common
from cornerlines.knots import knots_of, pieces_of
from cornerlines.spots import is_spot
from land_reference import knots_by, knots_on_by, pieces_by, place_of
from land_samples import STRAIGHTS, grid_lines, long_lines, near_lines, square_lines
from reference import are_on_one, spot_by, turned
from samples import DRAWINGS, MILLION, PAIRS, SMALL_LINES, some_lines, turned_round
from things import keeps


class KnotsCase(unittest.TestCase):
    def check(self, lines):
        """What the document says, and that it is what is told slowly."""
        knots, pieces = keeps(self, knots_of, lines), keeps(self, pieces_of, lines)
        self.assertEqual(knots, knots_by(lines))
        self.assertEqual(pieces, pieces_by(lines))
        spots = {(*point, 1) for line in lines for point in line}
        for one, other in combinations(lines, 2):
            spots |= set(common(one, other))
        self.assertEqual(knots, tuple(sorted(spots)))
        self.assertTrue(all(is_spot(knot) for knot in knots))
        self.assertEqual(pieces, tuple(sorted(set(pieces))))
        for low, high in pieces:
            self.assertLess(low, high)
            self.assertIn(low, knots)
            self.assertIn(high, knots)
        for k, line in enumerate(lines):
            on = [spot_by(*place) for place in knots_on_by(lines, k)]
            self.assertEqual((on[0], on[-1]), ((*line[0], 1), (*line[1], 1)))
            for piece in zip(on, on[1:]):
                self.assertIn(tuple(sorted(piece)), pieces)
        told = (knots, pieces)
        back = turned_round(lines)
        self.assertEqual((knots_of(back), pieces_of(back)), told)
        self.assertEqual((knots_of(lines * 2), pieces_of(lines * 2)), told)
        return told


class KnotsTest(KnotsCase):
    def tells(self, knots, pieces, *lines):
        """The pieces by the knots' places among them."""
        told = tuple((knots[k], knots[l]) for k, l in pieces)
        self.assertEqual(self.check(lines), (knots, told))

    def test_no_lines(self):
        self.tells((), ())

    def test_one_line(self):
        self.tells(((0, 0, 1), (57, 33, 1)), ((0, 1),), ((0, 0), (57, 33)))
        self.tells(((-57, 33, 1), (0, 0, 1)), ((0, 1),), ((0, 0), (-57, 33)))

    def test_lines_that_cross(self):
        self.tells(((0, 0, 1), (0, 4, 1), (2, 2, 1), (4, 0, 1), (4, 4, 1)), ((0, 2), (1, 2), (2, 3), (2, 4)),
                   ((0, 0), (4, 4)), ((0, 4), (4, 0)))

    def test_rising_as_tuples(self):
        # (3, 1, 2) lies at 3/2, 1/2, and rises as its numbers do.
        self.tells(((0, 0, 1), (0, 1, 1), (3, 0, 1), (3, 1, 1), (3, 1, 2)), ((0, 4), (1, 4), (2, 4), (3, 4)),
                   ((0, 0), (3, 1)), ((0, 1), (3, 0)))

    def test_at_ends(self):
        self.tells(((0, 0, 1), (2, 0, 1), (2, 5, 1), (4, 0, 1)), ((0, 1), (1, 2), (1, 3)), ((0, 0), (4, 0)), ((2, 0), (2, 5)))
        self.tells(((0, 0, 1), (4, 0, 1), (4, 5, 1)), ((0, 1), (1, 2)), ((0, 0), (4, 0)), ((4, 5), (4, 0)))

    def test_along_one_another(self):
        line = ((0, 0), (4, 4))
        self.tells(((0, 0, 1), (4, 4, 1)), ((0, 1),), line, line, turned(line))
        self.tells(((0, 0, 1), (1, 1, 1), (4, 4, 1), (6, 6, 1)), ((0, 1), (1, 2), (2, 3)), line, ((6, 6), (1, 1)))
        self.tells(((0, 0, 1), (1, 1, 1), (2, 2, 1), (4, 4, 1)), ((0, 1), (1, 2), (2, 3)), line, ((1, 1), (2, 2)))
        self.tells(((0, 0, 1), (4, 4, 1), (6, 6, 1)), ((0, 1), (1, 2)), line, ((6, 6), (4, 4)))
        # A third one across parts both.
        self.tells(((0, 0, 1), (0, 4, 1), (1, 1, 1), (2, 2, 1), (4, 0, 1), (4, 4, 1), (6, 6, 1)),
                   ((0, 2), (1, 3), (2, 3), (3, 4), (3, 5), (5, 6)), line, ((6, 6), (1, 1)), ((4, 0), (0, 4)))

    def test_many_through_one_knot(self):
        lines = tuple(((-x, -y), (x, y)) for x, y in ((3, 0), (3, 1), (2, 2), (0, 4), (-1, 5)))
        knots, pieces = self.check(lines)
        self.assertEqual(len(knots), 11)
        self.assertTrue(all((0, 0, 1) in piece for piece in pieces))
        self.assertEqual(len(pieces), 10)

    def test_very_near_knots(self):
        far = MILLION
        lines = (((-far, 0), (far, 1)), ((-far, 1), (far, 0)), ((-far, 0), (far - 1, 1)), ((1 - far, 0), (far, 1)))
        knots, pieces = self.check(lines)
        self.assertEqual(len(knots), 9)
        places = sorted(place_of(knot) for knot in knots)
        self.assertLess(min(far - near for (near, low), (far, high) in zip(places, places[1:])), 1)
        for one, other in pieces:
            self.assertTrue(any(are_on_one([*line, place_of(one), place_of(other)]) for line in lines))

    def test_pairs(self):
        for one, other, spots in PAIRS:
            knots, pieces = self.check((one, other))
            self.assertEqual(set(knots), {(*point, 1) for point in one + other} | set(spots))

    def test_small_lines(self):
        for k in range(0, len(SMALL_LINES), 5):
            for l in range(0, len(SMALL_LINES), 7):
                self.check((SMALL_LINES[k], SMALL_LINES[l], SMALL_LINES[(k * l + 3) % len(SMALL_LINES)]))

    def test_drawings(self):
        for lines in DRAWINGS:
            self.check(lines)
        for lines, many in STRAIGHTS:
            self.check(lines)

    def test_twelve_lines(self):
        for far in (2, 5, 40, MILLION):
            for lines in (tuple(some_lines(12, far, far)), long_lines(12, far, far), near_lines(12, far, far)):
                self.check(lines)
        knots, pieces = self.check(grid_lines(6, MILLION))
        self.assertEqual((len(knots), len(pieces)), (36 + 24, 12 * 7))
        self.check(square_lines(-MILLION, -MILLION, 2 * MILLION) * 3)


if __name__ == "__main__":
    unittest.main()

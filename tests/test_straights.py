"""[23]: walks and lands of straight lines, told by knots."""

import unittest
from fractions import Fraction

from cornerlines.knots import knots_of, pieces_of
from cornerlines.lands import lands_of
from cornerlines.straights import straight_area, straight_lands, straight_walks
from land_reference import area_by, halves_by, land_area_by, parts_by, place_of, straight_lands_by, walks_by
from land_samples import STRAIGHTS, grid_lines, long_lines, near_lines, square_lines
from reference import turned
from samples import DRAWINGS, GRAINS, MILLION, some_lines, turned_round
from things import keeps


def spots(*points):
    """These points as spots."""
    return tuple((x, y, 1) for x, y in points)


class StraightsCase(unittest.TestCase):
    def check(self, lines, grain=7):
        """What the document says of walks and lands, and that it is what is told slowly."""
        walks, lands = keeps(self, straight_walks, lines), keeps(self, straight_lands, lines)
        knots, pieces = knots_of(lines), pieces_of(lines)
        self.assertEqual(walks, walks_by(pieces))
        self.assertEqual(lands, straight_lands_by(lines))
        halves = [half for walk in walks for half in halves_by(walk)]
        self.assertEqual(sorted(halves), sorted([*pieces, *(piece[::-1] for piece in pieces)]))
        for walk in walks:
            self.assertEqual(halves_by(walk)[0], min(halves_by(walk)))
        held = [walk for border, rims in lands for walk in (border, *rims) if walk]
        self.assertEqual(sorted(held), list(walks))
        self.assertEqual([land[0] for land in lands], sorted(land[0] for land in lands))
        self.assertEqual(lands[0][0], ())
        parts = {id(part) for part in parts_by(pieces, knots).values()}
        self.assertEqual(len(knots) - len(pieces) + len(lands), 1 + len(parts))
        self.assertIsNone(keeps(self, straight_area, grain, lands[0]))
        total = Fraction(0)
        for land in lands[1:]:
            n, d = keeps(self, straight_area, grain, land)
            area = land_area_by(land) / Fraction(grain) ** 2
            self.assertEqual((n, d), (area.numerator, area.denominator))
            self.assertGreater(n, 0)
            total += area
        self.assertEqual(total, -sum(area_by(rim) for rim in lands[0][1]) / Fraction(grain) ** 2)
        back = turned_round(lines)
        self.assertEqual((straight_walks(back), straight_lands(back)), (walks, lands))
        other = tuple(turned(line) if k % 2 else line for k, line in enumerate(lines[3:] + lines[:3]))
        self.assertEqual((straight_walks(other), straight_lands(other)), (walks, lands))
        self.assertEqual(straight_lands(lines * 2), lands)
        return lands


class StraightsTest(StraightsCase):
    def test_no_lines(self):
        self.assertEqual(straight_walks(()), ())
        self.assertEqual(self.check(()), (((), ()),))

    def test_one_line(self):
        self.assertEqual(straight_walks((((5, 5), (0, 0)),)), (spots((0, 0), (5, 5)),))
        self.assertEqual(self.check((((5, 5), (0, 0)),)), (((), (spots((0, 0), (5, 5)),)),))

    def test_a_square(self):
        inside, outside = spots((0, 0), (40, 0), (40, 40), (0, 40)), spots((0, 0), (0, 40), (40, 40), (40, 0))
        lines = square_lines(0, 0, 40)
        self.assertEqual(straight_walks(lines), (outside, inside))
        self.assertEqual(self.check(lines), (((), (outside,)), (inside, ())))
        self.assertEqual(straight_area(10, (inside, ())), (32, 1))
        self.assertEqual(straight_area(1, (inside, ())), (3200, 1))
        self.assertEqual(straight_area(1000, (inside, ())), (2, 625))
        self.assertIsNone(straight_area(10, ((), (outside,))))

    def test_a_square_within_a_square(self):
        lands = self.check(square_lines(0, 0, 100) + square_lines(20, 20, 60))
        within = spots((20, 20), (20, 80), (80, 80), (80, 20))
        self.assertEqual(lands[1], (spots((0, 0), (100, 0), (100, 100), (0, 100)), (within,)))
        self.assertEqual(lands[2], (spots((20, 20), (80, 20), (80, 80), (20, 80)), ()))
        self.assertEqual([straight_area(10, land) for land in lands[1:]], [(128, 1), (72, 1)])

    def test_knots_rise_as_tuples(self):
        # Of the border (3, 1, 2) lies farthest to the right, but comes first.
        lands = self.check((((0, 0), (3, 1)), ((0, 1), (3, 0)), ((1, -9), (1, 9))))
        border = ((3, 1, 2), (3, 2, 3), (3, 1, 3))
        self.assertEqual(lands[1], (border, ()))
        self.assertEqual(straight_area(1, lands[1]), (1, 6))
        self.assertEqual(max(border, key=place_of), (3, 1, 2))

    def test_a_line_between_two_squares(self):
        both = square_lines(0, 0, 40) + square_lines(60, 0, 40)
        self.assertEqual([len(land[1]) for land in self.check(both)], [2, 0, 0])
        self.assertEqual([len(land[1]) for land in self.check(both + (((40, 20), (60, 20)),))], [1, 0, 0])
        # It goes on within both.
        lands = self.check(both + (((20, 20), (80, 20)),))
        self.assertEqual([len(land[1]) for land in lands], [1, 0, 0])
        self.assertEqual([straight_area(10, land) for land in lands[1:]], [(32, 1), (32, 1)])
        # Just short of one of them.
        self.assertEqual([len(land[1]) for land in self.check(both + (((20, 20), (59, 20)),))], [2, 0, 0])

    def test_within_lands_that_hold_one_another(self):
        lines = square_lines(0, 0, 100) + square_lines(20, 20, 60) + (((40, 40), (50, 45)), ((-9, -9), (-9, 9)))
        lands = self.check(lines)
        self.assertEqual([len(rims) for border, rims in lands], [2, 1, 1])
        self.assertEqual(lands[2][1], (spots((40, 40), (50, 45)),))

    def test_known_lands(self):
        for lines, many in STRAIGHTS:
            self.assertEqual(len(self.check(lines)), many, lines)

    def test_a_grid_of_six_by_six(self):
        lands = self.check(grid_lines(6, MILLION), 1000)
        self.assertEqual(len(lands), 26)
        # The lines stand so far from one another, or one more.
        wide = Fraction(MILLION // 6, 1000)
        for land in lands[1:]:
            n, d = straight_area(1000, land)
            self.assertLess(abs(Fraction(n, d) - 2 * wide ** 2), 1)
        self.assertEqual(len(straight_walks(grid_lines(6, 60))), 26)

    def test_as_bent_ones_of_great_drawings(self):
        # Where all knots are whole numbers, lands by the grain 1 are the straight ones.
        for lines, many in STRAIGHTS:
            if all(knot[2] == 1 for knot in knots_of(lines)):
                paths = tuple(((x, y), (u, v)) for (x, y, d), (u, v, e) in pieces_of(lines))
                bent = tuple((spots(*border), tuple(spots(*rim) for rim in rims)) for border, rims, dots in lands_of(paths))
                self.assertEqual(straight_lands(lines), bent)

    def test_drawings(self):
        for lines in DRAWINGS:
            for grain in GRAINS:
                self.check(lines, grain)

    def test_any_lines(self):
        for seed in range(30):
            for many, far in ((4, 3), (6, 5), (8, 30)):
                self.check(tuple(some_lines(many, far, seed)), 1 + seed)
                self.check(near_lines(many, far, seed), 1 + seed)

    def test_twelve_lines(self):
        for far in (2, 5, 40, MILLION):
            for lines in (tuple(some_lines(12, far, far)), long_lines(12, far, far), near_lines(12, far, far)):
                self.check(lines, 1000)
        self.assertGreater(len(straight_lands(long_lines(12, MILLION, 1))), 40)


if __name__ == "__main__":
    unittest.main()

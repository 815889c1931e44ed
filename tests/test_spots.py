"""[5] and [4]: spots, and the nearest corner of one."""

import unittest
from fractions import Fraction

from cornerlines.lines import corner_of
from cornerlines.spots import corner_at, is_spot, spot_of
from reference import corner_by, spot_by
from things import GREAT, anything, keeps


class SpotsTest(unittest.TestCase):
    def test_spots(self):
        right = (
            (0, 0, 1), (1, 2, 3), (-1, 2, 3), (2, 4, 3), (2, 3, 4), (6, 10, 15), (0, 1, 2), (1, 0, 2), (GREAT, 1, GREAT),
            (0, 0, 1), (-5, -5, 1), (GREAT, -GREAT, GREAT - 1),
        )
        for thing in right:
            self.assertIs(keeps(self, is_spot, thing), True, thing)

    def test_what_is_no_spot(self):
        wrong = (
            (2, 4, 6), (0, 0, 2), (0, 2, 2), (2, 0, 2), (3, 3, 3), (-2, 4, 6), (-2, -4, 6), (1, 2, 0), (0, 0, 0),
            (1, 2, -3), (0, 0, -1), (2, 2, -2), (True, 2, 3), (1, False, 3), (1, 2, True), (1, 2), (1, 2, 3, 1), [1, 2, 3],
            (1, 2, None), ("1", 2, 3), (1, 2, [3]), {1: 2}, ((1, 2), 3), ((1, 2, 3),), (GREAT, GREAT, GREAT), None, 1, "",
        )
        for thing in wrong:
            self.assertIs(keeps(self, is_spot, thing), False, thing)
        for thing in anything():
            self.assertIs(keeps(self, is_spot, thing), False)

    def test_spot_of(self):
        self.assertEqual(keeps(self, spot_of, 2, 4, 6), (1, 2, 3))
        self.assertEqual(spot_of(0, 0, 5), (0, 0, 1))
        self.assertEqual(spot_of(0, 0, -5), (0, 0, 1))
        self.assertEqual(spot_of(1, 2, -3), (-1, -2, 3))
        self.assertEqual(spot_of(-6, 10, -4), (3, -5, 2))
        self.assertEqual(spot_of(-6, 9, 3), (-2, 3, 1))
        self.assertEqual(spot_of(4, 6, 3), (4, 6, 3))
        self.assertEqual(spot_of(0, 4, 6), (0, 2, 3))
        self.assertEqual(spot_of(4, 0, 6), (2, 0, 3))

    def test_spot_of_great_numbers(self):
        self.assertEqual(spot_of(6 * GREAT, -9 * GREAT, 3 * GREAT), (2, -3, 1))
        self.assertEqual(spot_of(10 ** 60, 10 ** 59, -(10 ** 58)), (-100, -10, 1))
        self.assertEqual(spot_of(GREAT, 1, -GREAT), (-GREAT, -1, GREAT))

    def test_spot_of_against_the_reference(self):
        for n in range(-6, 7):
            for m in range(-6, 7):
                for d in (-6, -4, -3, -1, 1, 2, 3, 4, 6):
                    spot = spot_of(n, m, d)
                    self.assertEqual(spot, spot_by(Fraction(n, d), Fraction(m, d)))
                    self.assertIs(is_spot(spot), True)
                    self.assertIs(is_spot((n, m, d)), spot == (n, m, d))


class CornerAtTest(unittest.TestCase):
    def test_at_halves_of_cells(self):
        self.assertEqual(keeps(self, corner_at, 1, (1, -1, 2)), (1, 0))
        self.assertEqual(corner_at(1, (3, -3, 2)), (2, -1))
        self.assertEqual(corner_at(3, (3, -3, 2)), (1, 0))
        self.assertEqual(corner_at(10, (5, -5, 1)), (1, 0))

    def test_just_beside_halves(self):
        self.assertEqual(corner_at(1, (499, -499, 1000)), (0, 0))
        self.assertEqual(corner_at(1, (501, -501, 1000)), (1, -1))
        self.assertEqual(corner_at(10, (5 * 10 ** 20 - 1, -5 * 10 ** 20 - 1, 10 ** 20)), (0, -1))
        self.assertEqual(corner_at(10, (5 * 10 ** 20 + 1, -5 * 10 ** 20 + 1, 10 ** 20)), (1, 0))

    def test_great_numbers(self):
        self.assertEqual(corner_at(1000, (GREAT, -GREAT, 1)), (10 ** 37, -(10 ** 37)))
        self.assertEqual(corner_at(7, (7 * GREAT, 14 * GREAT + 1, GREAT)), (1, 2))

    def test_the_same_as_of_points(self):
        for grain in (1, 2, 3, 10, 1000):
            for x in range(-30, 31):
                for y in (-15, -5, 0, 5, 14):
                    self.assertEqual(corner_at(grain, (x, y, 1)), corner_of(grain, (x, y)))

    def test_against_the_reference(self):
        for grain in (1, 2, 3, 7):
            for n in range(-20, 21):
                for m in (-9, -4, 0, 3, 7):
                    for d in (1, 2, 3, 5):
                        spot = spot_of(n, m, d)
                        told = corner_by(grain, Fraction(n, d), Fraction(m, d))
                        self.assertEqual(corner_at(grain, spot), told)


if __name__ == "__main__":
    unittest.main()

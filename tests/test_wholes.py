"""[2]: what a whole number is, and what is reckoned with them."""

import unittest
from fractions import Fraction
from math import gcd

from cornerlines.papers import is_paper
from cornerlines.shares import is_share, share_of, spot_at
from cornerlines.wholes import (
    are_wholes, greater_of, greatest_parting, is_less, is_whole, lesser_of, lowest, nearest,
)
from reference import place_at, spot_by
from things import GREAT, anything


class WholesTest(unittest.TestCase):
    def test_whole_numbers(self):
        for thing in (0, 1, -1, GREAT, -GREAT):
            self.assertIs(is_whole(thing), True)
        for thing in (True, False, None, "1", (1,), [1], {1: 1}):
            self.assertIs(is_whole(thing), False)

    def test_tuples_of_whole_numbers(self):
        self.assertIs(are_wholes((), 0), True)
        self.assertIs(are_wholes((1, -2), 2), True)
        for thing in ((1,), (1, 2, 3), [1, 2], (1, True), (False, 1), (1, None), "12", {1: 1, 2: 2}, None, 12):
            self.assertIs(are_wholes(thing, 2), False)

    def test_greatest_parting(self):
        for n in range(-12, 13):
            for m in range(-12, 13):
                self.assertEqual(greatest_parting(n, m), gcd(n, m))
        self.assertEqual(greatest_parting(GREAT * 7, GREAT * 5), GREAT)

    def test_lowest(self):
        for n in range(-12, 13):
            for d in range(1, 13):
                told = Fraction(n, d)
                self.assertEqual(lowest(n, d), (told.numerator, told.denominator))

    def test_less_and_greater(self):
        told = [(n, d) for n in range(-4, 5) for d in range(1, 5)]
        for one in told:
            for other in told:
                low, high = sorted([Fraction(*one), Fraction(*other)])
                self.assertIs(is_less(one, other), Fraction(*one) < Fraction(*other))
                self.assertEqual(Fraction(*lesser_of(one, other)), low)
                self.assertEqual(Fraction(*greater_of(one, other)), high)

    def test_nearest(self):
        for d in range(1, 9):
            for n in range(-40, 41):
                i = nearest(n, d)
                self.assertTrue(i - Fraction(1, 2) <= Fraction(n, d) < i + Fraction(1, 2))

    def test_papers(self):
        self.assertIs(is_paper(("a", 1, 2), "a", 2), True)
        self.assertIs(is_paper(("a",), "a", 0), True)
        for thing in (("b", 1, 2), ("a", 1), ("a", 1, 2, 3), ["a", 1, 2], ("a", 1, True), (1, 2), ()):
            self.assertIs(is_paper(thing, "a", 2), False)
        for thing in anything():
            self.assertIs(is_paper(thing, "b", 2), False)

    def test_shares(self):
        for k in range(-2, 5):
            for m in range(-2, 5):
                self.assertIs(is_share(k, m), m >= 1 and k in range(m + 1))

    def test_spots_at_shares(self):
        for line in (((0, 0), (6, 4)), ((3, -2), (3, 7)), ((5, 1), (-4, 1)), ((1, 2), (-3, -9))):
            for m in range(1, 7):
                for k in range(m + 1):
                    spot = spot_at(line, k, m)
                    self.assertEqual(spot, spot_by(*place_at(line, Fraction(k, m))))
                    told = Fraction(k, m)
                    self.assertEqual(share_of(line, spot), (told.numerator, told.denominator))


if __name__ == "__main__":
    unittest.main()

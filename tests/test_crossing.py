"""[7]: what two lines have in common, and the paper that shows why."""

import unittest

from cornerlines.crossing import common, common_paper
from cornerlines.spots import is_spot
from reference import apart_by, common_by, met_by, spot_by
from samples import MILLION, PAIRS, SMALL_LINES, all_ways, some_lines
from things import keeps


class CommonTest(unittest.TestCase):
    def test_pairs(self):
        for one, other, spots in PAIRS:
            for a, b in all_ways(one, other):
                self.assertEqual(keeps(self, common, a, b), spots, (a, b))

    def check(self, one, other):
        spots = common(one, other)
        self.assertEqual(spots, tuple(spot_by(*place) for place in common_by(one, other)))
        self.assertEqual(spots, tuple(sorted(spots)))
        self.assertLessEqual(len(spots), 2)
        self.assertTrue(all(is_spot(spot) for spot in spots))

    def test_all_small_lines(self):
        for one in SMALL_LINES:
            for other in SMALL_LINES:
                self.check(one, other)

    def test_some_lines(self):
        for far in (5, 40, MILLION):
            lines = some_lines(40, far, far)
            for one in lines:
                for other in lines:
                    self.check(one, other)

    def test_great_lines(self):
        one = ((-(10 ** 30), 0), (10 ** 30, 1))
        other = ((0, -(10 ** 30)), (1, 10 ** 30))
        self.check(one, other)
        self.check(one, one)


class CommonPaperTest(unittest.TestCase):
    def check(self, one, other):
        paper = common_paper(one, other)
        if common_by(one, other) == []:
            self.assertTrue(apart_by(one, other, paper), (one, other, paper))
        else:
            place = met_by(one, other, paper)
            self.assertIsNotNone(place, (one, other, paper))
            low, high = common_by(one, other)[0], common_by(one, other)[-1]
            self.assertTrue(low <= place <= high)

    def test_pairs(self):
        for one, other, spots in PAIRS:
            for a, b in all_ways(one, other):
                paper = keeps(self, common_paper, a, b)
                self.assertEqual(paper[0], "meets" if spots else "apart")
                self.check(a, b)

    def test_all_small_lines(self):
        for one in SMALL_LINES:
            for other in SMALL_LINES:
                self.check(one, other)

    def test_some_lines(self):
        for far in (5, 40, MILLION):
            lines = some_lines(40, far, far + 1)
            for one in lines:
                for other in lines:
                    self.check(one, other)


if __name__ == "__main__":
    unittest.main()

"""[7]: what two lines have in common, and the paper that shows why."""

import unittest
from random import Random

from cornerlines.crossing import common, common_paper
from cornerlines.spots import is_spot
from reference import apart_by, common_by, met_by, spot_by, turned
from things import keeps

MILLION = 10 ** 6
SMALL = [(x, y) for x in range(3) for y in range(3)]
SMALL_LINES = [(a, b) for a in SMALL for b in SMALL if a != b]
# Each with what they have in common.
PAIRS = (
    # Nothing.
    (((0, 0), (1, 0)), ((0, 1), (1, 1)), ()),
    (((0, 0), (4, 0)), ((1, 1), (9, 2)), ()),
    (((0, 0), (4, 0)), ((5, -1), (5, 1)), ()),
    (((0, 0), (4, 4)), ((5, 5), (6, 6)), ()),
    (((0, 0), (4, 0)), ((-3, 0), (-1, 0)), ()),
    (((0, 0), (0, 4)), ((0, 5), (0, 6)), ()),
    (((0, 0), (4, 4)), ((0, 1), (4, 5)), ()),
    (((0, 0), (4, 0)), ((2, 1), (2, 2)), ()),
    (((0, 0), (3, 3)), ((4, 0), (3, 2)), ()),
    # One point, within both.
    (((0, 0), (4, 4)), ((0, 4), (4, 0)), ((2, 2, 1),)),
    (((0, 0), (1, 1)), ((0, 1), (1, 0)), ((1, 1, 2),)),
    (((0, 0), (3, 1)), ((0, 1), (3, 0)), ((3, 1, 2),)),
    (((-2, 0), (1, 0)), ((0, -1), (-1, 2)), ((-1, 0, 3),)),
    (((0, 0), (5, 2)), ((0, 2), (5, 1)), ((10, 4, 3),)),
    # At an end of one.
    (((0, 0), (4, 0)), ((2, 0), (2, 5)), ((2, 0, 1),)),
    (((0, 0), (4, 0)), ((3, 7), (1, 0)), ((1, 0, 1),)),
    (((2, 0), (2, 5)), ((0, 0), (4, 0)), ((2, 0, 1),)),
    # At an end of both.
    (((0, 0), (4, 0)), ((4, 0), (4, 5)), ((4, 0, 1),)),
    (((0, 0), (4, 0)), ((-1, 5), (0, 0)), ((0, 0, 1),)),
    # Along one straight line, at just one point.
    (((0, 0), (4, 4)), ((4, 4), (6, 6)), ((4, 4, 1),)),
    (((0, 0), (4, 4)), ((-1, -1), (0, 0)), ((0, 0, 1),)),
    (((0, 0), (0, 4)), ((0, 9), (0, 4)), ((0, 4, 1),)),
    # A stretch: a part, a line within another one, alike ones.
    (((0, 0), (4, 4)), ((1, 1), (6, 6)), ((1, 1, 1), (4, 4, 1))),
    (((0, 0), (4, 0)), ((3, 0), (1, 0)), ((1, 0, 1), (3, 0, 1))),
    (((0, 0), (0, 4)), ((0, 9), (0, -9)), ((0, 0, 1), (0, 4, 1))),
    (((0, 4), (4, 0)), ((4, 0), (0, 4)), ((0, 4, 1), (4, 0, 1))),
    (((0, 4), (4, 0)), ((0, 4), (4, 0)), ((0, 4, 1), (4, 0, 1))),
    (((0, 0), (6, 4)), ((0, 0), (3, 2)), ((0, 0, 1), (3, 2, 1))),
    # At the bounds.
    (((-MILLION, -MILLION), (MILLION, MILLION)), ((-MILLION, MILLION), (MILLION, -MILLION)), ((0, 0, 1),)),
    (((-MILLION, 0), (MILLION, 1)), ((-MILLION, 1), (MILLION, 0)), ((0, 1, 2),)),
    (((-MILLION, -MILLION), (MILLION, MILLION)), ((-MILLION, 1 - MILLION), (MILLION - 1, MILLION)), ()),
    (((-MILLION, 0), (MILLION, 1)), ((-MILLION, 1), (MILLION, 2)), ()),
    (((-MILLION, -1), (MILLION, 0)), ((-MILLION, -2), (MILLION - 1, -1)), ()),
)


def some_lines(many, far, seed):
    """Lines here and there, the same ones each time."""
    chance = Random(seed)
    lines = []
    while len(lines) < many:
        line = tuple((chance.randint(-far, far), chance.randint(-far, far)) for k in (0, 1))
        if line[0] != line[1]:
            lines.append(line)
    return lines


def all_ways(one, other):
    """Both lines in either turn, each from behind too."""
    both = []
    for a, b in ((one, other), (other, one)):
        both += [(a, b), (turned(a), b), (a, turned(b)), (turned(a), turned(b))]
    return both


class CommonTest(unittest.TestCase):
    def test_pairs(self):
        for one, other, spots in PAIRS:
            for a, b in all_ways(one, other):
                self.assertEqual(keeps(self, common, a, b), spots, (a, b))

    def check(self, one, other):
        spots = common(one, other)
        self.assertEqual(spots, tuple(spot_by(*place) for place in common_by(one, other)))
        self.assertEqual(spots, tuple(sorted(spots)))
        self.assertLessEqual(len(spots), 2)
        self.assertTrue(all(is_spot(spot) for spot in spots))

    def test_all_small_lines(self):
        for one in SMALL_LINES:
            for other in SMALL_LINES:
                self.check(one, other)

    def test_some_lines(self):
        for far in (5, 40, MILLION):
            lines = some_lines(40, far, far)
            for one in lines:
                for other in lines:
                    self.check(one, other)

    def test_great_lines(self):
        one = ((-(10 ** 30), 0), (10 ** 30, 1))
        other = ((0, -(10 ** 30)), (1, 10 ** 30))
        self.check(one, other)
        self.check(one, one)


class CommonPaperTest(unittest.TestCase):
    def check(self, one, other):
        paper = common_paper(one, other)
        if common_by(one, other) == []:
            self.assertTrue(apart_by(one, other, paper), (one, other, paper))
        else:
            place = met_by(one, other, paper)
            self.assertIsNotNone(place, (one, other, paper))
            low, high = common_by(one, other)[0], common_by(one, other)[-1]
            self.assertTrue(low <= place <= high)

    def test_pairs(self):
        for one, other, spots in PAIRS:
            for a, b in all_ways(one, other):
                paper = keeps(self, common_paper, a, b)
                self.assertEqual(paper[0], "meets" if spots else "apart")
                self.check(a, b)

    def test_all_small_lines(self):
        for one in SMALL_LINES:
            for other in SMALL_LINES:
                self.check(one, other)

    def test_some_lines(self):
        for far in (5, 40, MILLION):
            lines = some_lines(40, far, far + 1)
            for one in lines:
                for other in lines:
                    self.check(one, other)


if __name__ == "__main__":
    unittest.main()

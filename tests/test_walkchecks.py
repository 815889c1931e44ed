"""[22]: whether anything is just all walks of plane paths."""

import unittest
from copy import deepcopy

from bent_reference import is_just_by
from bent_samples import some_paths
from cornerlines.paths import drawn
from cornerlines.walkchecks import walks_holds
from cornerlines.walks import walks_of
from land_samples import BOX, PLANES, long_grid, long_lines, square
from samples import DRAWINGS, GRAINS, MILLION
from things import anything, keeps, nested, spoilt, spoilt_within

PAIR = BOX + square(2, 2, 6)


class HoldsTest(unittest.TestCase):
    def holds(self, paths, thing, told):
        before = deepcopy((paths, thing))
        self.assertIs(walks_holds(paths, thing), told, thing)
        self.assertIs(walks_holds(paths, thing), told)
        self.assertEqual(repr((paths, thing)), repr(before))

    def test_all_walks(self):
        for paths, many, lands in PLANES:
            self.assertIs(keeps(self, walks_holds, paths, walks_of(paths)), True)
        for lines in DRAWINGS:
            for grain in GRAINS:
                paths = drawn(grain, lines)[1]
                self.holds(paths, walks_of(paths), True)

    def test_none(self):
        self.holds((), (), True)
        self.holds((((3, 3),),), (), True)
        self.holds((), ((),), False)
        self.holds((), [], False)
        self.holds(BOX, (), False)

    def test_one_left_out_or_twice(self):
        walks = walks_of(PAIR)
        for k, walk in enumerate(walks):
            self.holds(PAIR, walks[:k] + walks[k + 1:], False)
            self.holds(PAIR, walks[:k] + (walk,) + walks[k:], False)
            self.holds(PAIR, walks + (walk,), False)
            self.holds(PAIR, walk, False)
            self.holds(PAIR, (walk,), False)

    def test_exchanged(self):
        walks = walks_of(PAIR)
        for k in range(3):
            self.holds(PAIR, walks[:k] + (walks[k + 1], walks[k]) + walks[k + 2:], False)
        self.holds(PAIR, walks[::-1], False)

    def test_from_another_corner_on_or_from_behind(self):
        walks = walks_of(PAIR)
        for k, walk in enumerate(walks):
            for other in (walk[1:] + walk[:1], walk[2:] + walk[:2], walk[::-1], walk[:1] + walk[:0:-1]):
                self.holds(PAIR, walks[:k] + (other,) + walks[k + 1:], False)

    def test_two_as_one_and_one_as_two(self):
        walks = walks_of(PAIR)
        self.holds(PAIR, (walks[0] + walks[1],) + walks[2:], False)
        self.holds(PAIR, (walks[0][:2], walks[0][2:]) + walks[1:], False)
        meeting = square(0, 0, 2) + square(2, 2, 1)
        rim = walks_of(meeting)[0]
        self.assertEqual(len(rim), 8)
        at = rim.index((2, 2))
        apart = (rim[:at] + rim[at + 4:], rim[at:at + 4])
        self.holds(meeting, tuple(sorted(apart + walks_of(meeting)[1:])), False)

    def test_other_corners(self):
        walks = walks_of(PAIR)
        for k, walk in enumerate(walks):
            for l, corner in enumerate(walk):
                for other in (walk[:l] + walk[l + 1:], walk[:l] + (corner,) + walk[l:], walk[:l] + ((3, 3),) + walk[l + 1:]):
                    self.holds(PAIR, walks[:k] + (other,) + walks[k + 1:], False)

    def test_truths_for_numbers(self):
        paths = square(0, 0, 1)
        walks = walks_of(paths)
        self.holds(paths, walks, True)
        for k, walk in enumerate(walks):
            for l, (i, j) in enumerate(walk):
                for other in ((bool(i), j), (i, bool(j)), (bool(i), bool(j)), [i, j], (i, j, 1), (i,), (str(i), j)):
                    self.holds(paths, walks[:k] + (walk[:l] + (other,) + walk[l + 1:],) + walks[k + 1:], False)

    def test_of_other_paths(self):
        self.holds(BOX, walks_of(PAIR), False)
        self.holds(PAIR, walks_of(BOX), False)
        self.holds(BOX[:1], walks_of(BOX[1:]), False)
        self.holds(BOX[::-1], walks_of(BOX), True)

    def test_spoilt_anywhere(self):
        for paths in (BOX, (((0, 0), (1, 1)),), BOX + (((0, 0), (3, 4)), ((5, 5), (6, 6)))):
            walks = walks_of(paths)
            for thing in spoilt_within(walks):
                self.holds(paths, thing, is_just_by(thing, walks))
            for thing in spoilt(walks):
                self.holds(paths, thing, False)

    def test_of_anything(self):
        for paths in (BOX, PAIR, (((0, 0), (1, 1)),)):
            for thing in anything():
                self.holds(paths, thing, False)
                self.holds(paths, (thing,) * len(walks_of(paths)), False)
                self.holds(paths, ((thing,) * 4,) * len(walks_of(paths)), False)
        for kind in ("tuple", "list", "dict"):
            self.holds((), nested(40, kind), False)

    def test_great_ones(self):
        for paths in (long_grid(33898, -MILLION), drawn(1, long_lines(12, MILLION, 5))[1], some_paths(12, 20, 60, 1)):
            walks = walks_of(paths)
            self.holds(paths, walks, True)
            self.holds(paths, walks[:-1] + (walks[-1][:-1] + ((MILLION, 1),),), False)
            self.holds(paths, walks[1:], False)


if __name__ == "__main__":
    unittest.main()

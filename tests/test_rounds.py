"""[19]: what lies round a corner of paths, in order."""

import unittest
from itertools import permutations

from bent_reference import round_by
from bent_samples import QUARTER, SHEARS, gone_back, sheared, some_paths
from cornerlines.paths import drawn
from cornerlines.rounds import round_of
from cornerlines.turns import in_turn, is_ahead
from samples import DRAWINGS, GRAINS, MILLION, some_lines
from things import keeps

# Against the clock from the right on.
WAYS = (
    (1, 0), (MILLION, 1), (5, 1), (2, 1), (1, 1), (1, 2), (1, MILLION), (0, 7), (-1, MILLION), (-1, 1), (-9, 8), (-MILLION, 1),
    (-3, 0), (-MILLION, -1), (-2, -1), (-1, -1), (-3, -4), (-1, -MILLION), (0, -1), (1, -MILLION), (2, -3), (MILLION, -1),
)


class RoundTest(unittest.TestCase):
    def tells(self, told, paths, corner):
        self.assertEqual(keeps(self, round_of, paths, corner), told)
        self.assertEqual(round_by(paths, corner), told)
        for other in (paths[::-1], gone_back(paths), paths * 2, paths + gone_back(paths)):
            self.assertEqual(round_of(other, corner), told)

    def test_no_links(self):
        self.tells((), (), (0, 0))
        self.tells((), (((0, 0),),), (0, 0))
        self.tells((), (((0, 0),), ((1, 0), (2, 0)), ((0, 0),)), (0, 0))
        self.tells((), (((-1, 0), (1, 0)),), (5, 5))

    def test_one_link(self):
        self.tells(((1, 0),), (((0, 0), (1, 0)),), (0, 0))
        self.tells(((0, 0),), (((0, 0), (1, 0)),), (1, 0))
        self.tells(((-4, -7),), (((3, 3), (-4, -7)), ((3, 3),)), (3, 3))

    def test_what_lies_just_at_the_right_is_first(self):
        paths = (((0, -1), (0, 0), (0, 1)), ((-1, 0), (0, 0), (1, 0)))
        self.tells(((1, 0), (0, 1), (-1, 0), (0, -1)), paths, (0, 0))
        self.tells(((0, 1), (-1, 0), (0, -1), (1, -1)), paths[:1] + (((-1, 0), (0, 0), (1, -1)),), (0, 0))
        self.tells(((9, 1), (0, 1), (-1, 0), (0, -1)), paths[:1] + (((-1, 0), (0, 0), (9, 1)),), (0, 0))

    def test_along_one_path(self):
        path = ((0, 0), (3, 0), (3, 3), (0, 3), (1, 1))
        self.tells(((0, 0), (3, 3))[::-1], (path,), (3, 0))
        self.tells(((0, 3), (3, 0)), (path,), (3, 3))
        self.tells(((3, 3), (1, 1)), (path,), (0, 3))
        self.tells(((0, 3),), (path,), (1, 1))

    def test_each_once(self):
        paths = (((-1, 0), (0, 0), (1, 1)), ((1, 1), (0, 0)), ((0, 0), (-1, 0)), ((-1, 0), (0, 0), (1, 1)))
        self.tells(((1, 1), (-1, 0)), paths, (0, 0))

    def test_near_and_far_ones(self):
        for many in (3, 8, 22):
            ways = WAYS[::22 // many]
            for order in (ways, ways[::-1], ways[1::2] + ways[::2]):
                for i, j in ((0, 0), (17, -40), (-MILLION, MILLION)):
                    paths = tuple(((i + x, j + y), (i, j)) for x, y in order)
                    self.tells(tuple((i + x, j + y) for x, y in ways), paths, (i, j))

    def test_in_one_quarter(self):
        ways = ((7, 1), (100, 15), (3, 2), (99, 98), (1, 1), (98, 99), (5, 9), (1, 40))
        for rows in (((1, 0, 0), (0, 1, 0)), QUARTER, ((-1, 0, 0), (0, -1, 0)), ((0, 1, 0), (-1, 0, 0))):
            (told,) = sheared((ways,), rows)
            self.tells(told, tuple((way, (0, 0)) for way in told[::-1]), (0, 0))

    def test_at_the_bounds(self):
        far = MILLION
        told = ((far, far), (-far, far), (-far, 1 - far), (-far, -far), (1 - far, -far), (far, -far), (far, 1 - far))
        self.tells(told, tuple(((0, 0), corner) for corner in told[::-1]), (0, 0))
        told = ((far, -far), (far, 1 - far), (far - 1, far), (-far, far))
        self.tells(told, tuple((corner, (-far, -far)) for corner in told[::-1]), (-far, -far))

    def test_paths_of_one_plane(self):
        for seed in range(20):
            for rows in SHEARS:
                paths = sheared(some_paths(4, 5, 20, seed), rows)
                for corner in sorted({corner for path in paths for corner in path}):
                    self.assertEqual(round_of(paths, corner), round_by(paths, corner))

    def test_drawings(self):
        cases = [(grain, lines) for lines in DRAWINGS for grain in GRAINS]
        cases += [(grain, tuple(some_lines(12, far, 5))) for grain, far in ((1, 4), (2, 9), (10, 60), (1000, MILLION))]
        for grain, lines in cases:
            corners, paths = drawn(grain, lines)
            for corner in corners:
                self.tells(round_by(paths, corner), paths, corner)


class TurnsTest(unittest.TestCase):
    def test_which_way_is_ahead(self):
        for k, one in enumerate(WAYS):
            for l, other in enumerate(WAYS):
                self.assertIs(is_ahead(one, other), k < l)
            self.assertIs(is_ahead(one, (3 * one[0], 3 * one[1])), False)

    def test_in_turn(self):
        for rows in permutations(((1, 0), (2, 0), (0, 1), (-1, -1))):
            told = in_turn(list(rows), is_ahead)
            alike = [row for row in rows if row[1] == 0]
            self.assertEqual(told, alike + [(0, 1), (-1, -1)])


if __name__ == "__main__":
    unittest.main()

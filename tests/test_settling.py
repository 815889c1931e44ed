"""[17]: paths done again and again; of [3] what speaks of it."""

import unittest
from fractions import Fraction
from random import Random

from bent_reference import again_by, doings_by, links_by, passes_by, trouble_by, unsettled_by
from bent_samples import chain, gone_back, some_paths
from cornerlines.offs import off_of
from cornerlines.paths import drawn
from cornerlines.planes import trouble_of
from cornerlines.settling import again, doings, settled, unsettled
from cornerlines.sides import passes
from reference import meets_by
from samples import DRAWINGS, GRAINS, MILLION, corners_about, some_lines
from things import keeps


def some_corners(many, far, seed):
    """So many corners here and there, rising."""
    chance = Random(seed)
    corners = set()
    while len(corners) < many:
        corners.add((chance.randint(-far, far), chance.randint(-far, far)))
    return tuple(sorted(corners))


def some_links(corners, many, long, seed):
    """Paths by some of the corners, neither number of which goes back, some paths twice or gone back."""
    chance = Random(seed)
    paths = []
    for k in range(many):
        path = []
        for i, j in sorted(chance.sample(corners, min(long, len(corners)))):
            if path == [] or (j - path[-1][1]) * (-1) ** k >= 0:
                path.append((i, j))
        paths.append(tuple(path))
    return (*paths, paths[0], paths[-1][::-1])


def steps_of(path):
    """How far its links go by both numbers together."""
    return sum(abs(i - k) + abs(j - l) for (i, j), (k, l) in zip(path, path[1:]))


class SettlingTest(unittest.TestCase):
    def check(self, corners, paths):
        """All that is told of these paths, which is settled behind so many doings."""
        told = keeps(self, doings, corners, paths)
        self.assertEqual(told, doings_by(corners, paths))
        self.assertEqual(again(corners, paths), again_by(corners, paths))
        states = (paths, *told)
        for before, behind in zip(states, states[1:]):
            self.assertEqual(keeps(self, again, corners, before), behind)
            self.assertNotEqual(before, behind)
            self.check_unsettled(corners, before)
            self.check_kept(corners, before, behind)
        last = states[-1]
        self.assertEqual(keeps(self, settled, corners, paths), last)
        self.assertEqual(again(corners, last), last)
        self.assertEqual(doings(corners, last), ())
        self.assertEqual(settled(corners, last), last)
        self.assertIsNone(keeps(self, unsettled, corners, last))
        self.check_settled(corners, last)
        self.assertEqual(doings(corners, gone_back(paths)), tuple(gone_back(done) for done in told))
        self.assertEqual(doings(corners, paths[::-1]), tuple(done[::-1] for done in told))
        return len(told)

    def check_unsettled(self, corners, paths):
        told = keeps(self, unsettled, corners, paths)
        self.assertEqual(told, unsettled_by(corners, paths))
        link, corner = told
        self.assertIn(link, links_by(paths))
        self.assertIn(corner, corners)
        self.assertNotIn(corner, link)
        self.assertTrue(meets_by(1, link, corner))
        self.assertEqual(unsettled(corners, gone_back(paths)), told)
        self.assertEqual(unsettled(corners, paths[::-1]), told)

    def check_kept(self, corners, before, behind):
        self.assertEqual(len(before), len(behind))
        for path, done in zip(before, behind):
            self.assertEqual(tuple(corner for corner in done if corner in path), path)
            self.assertEqual(steps_of(path), steps_of(done))
            self.assertTrue(all(corner in corners for corner in done))
            for (i, j), (k, l) in zip(path, path[1:]):
                between = done[done.index((i, j)) + 1:done.index((k, l))]
                for x, y in between:
                    self.assertTrue(min(i, k) <= x <= max(i, k) and min(j, l) <= y <= max(j, l))

    def check_settled(self, corners, paths):
        for link in links_by(paths):
            for corner in corners:
                self.assertEqual(meets_by(1, link, corner), corner in link)

    def test_no_paths(self):
        self.assertEqual(self.check((), ()), 0)
        self.assertEqual(self.check(((0, 0), (5, 5)), ()), 0)
        self.assertEqual(keeps(self, again, ((0, 0),), ()), ())
        self.assertIsNone(keeps(self, unsettled, ((0, 0),), ()))

    def test_paths_of_one_corner(self):
        self.assertEqual(self.check(((0, 0), (1, 0)), (((0, 0),), ((1, 0),), ((0, 0),))), 0)
        self.assertEqual(settled(((0, 0),), (((0, 0),),)), (((0, 0),),))

    def test_nothing_comes(self):
        corners = ((0, 0), (1, 2), (2, 0), (4, 0))
        paths = (((0, 0), (2, 0), (4, 0)), ((4, 0), (1, 2)))
        self.assertEqual(self.check(corners, paths), 0)
        self.assertEqual(doings(corners, paths), ())
        self.assertEqual(settled(corners, paths), paths)

    def test_something_comes(self):
        corners, paths = ((0, 0), (2, 0), (4, 0)), (((0, 0), (4, 0)),)
        told = (((0, 0), (2, 0), (4, 0)),)
        self.assertEqual(keeps(self, again, corners, paths), told)
        self.assertEqual(keeps(self, doings, corners, paths), (told,))
        self.assertEqual(keeps(self, settled, corners, paths), told)
        self.assertEqual(keeps(self, unsettled, corners, paths), (((0, 0), (4, 0)), (2, 0)))
        self.assertEqual(self.check(corners, paths), 1)

    def test_gone_in_the_paths_way(self):
        corners = ((0, 0), (1, 1), (2, 1), (3, 2))
        self.assertEqual(again(corners, (((0, 0), (3, 2)),)), (((0, 0), (1, 1), (2, 1), (3, 2)),))
        self.assertEqual(again(corners, (((3, 2), (0, 0)),)), (((3, 2), (2, 1), (1, 1), (0, 0)),))
        both = (((0, 0), (3, 2)), ((3, 2), (0, 0)), ((0, 0), (3, 2)))
        told = again(corners, both)
        self.assertEqual(told, (told[0], told[0][::-1], told[0]))
        self.check(corners, both)

    def test_each_link_alone(self):
        corners = ((0, 0), (0, 4), (2, 0), (2, 2), (4, 0), (4, 4))
        paths = (((0, 0), (4, 0), (0, 4), (4, 4)),)
        told = (((0, 0), (2, 0), (4, 0), (2, 2), (0, 4), (4, 4)),)
        self.assertEqual(again(corners, paths), told)
        self.check(corners, paths)

    def test_on_the_rim_of_a_cell(self):
        # Both lines go through the middle of these four; there is the cell of the last one alone.
        corners = ((0, 0), (0, 1), (1, 0), (1, 1))
        rising, falling = ((0, 0), (1, 1)), ((0, 1), (1, 0))
        self.assertEqual(again(corners, (rising,)), (rising,))
        self.assertEqual(again(corners, (falling,)), (((0, 1), (1, 1), (1, 0)),))
        self.assertEqual(unsettled(corners, (falling,)), (falling, (1, 1)))
        self.check(corners, (rising[::-1],))
        self.check(corners, (falling[::-1],))

    def test_a_second_time(self):
        corners, line = ((0, 0), (1, 0), (2, 0), (3, 1)), ((0, 0), (3, 1))
        told = ((((0, 0), (1, 0), (3, 1)),), (((0, 0), (1, 0), (2, 0), (3, 1)),))
        self.assertEqual(keeps(self, doings, corners, (line,)), told)
        self.assertEqual(settled(corners, (line,)), told[1])
        self.assertEqual(unsettled(corners, told[0]), (((1, 0), (3, 1)), (2, 0)))
        self.assertEqual(self.check(corners, (line,)), 2)
        self.assertEqual(self.check(corners, (line[::-1], ((2, 0),))), 2)

    def test_the_first_that_is_unsettled(self):
        corners = ((-9, 0), (-8, 0), (-7, 0), (0, 0), (1, 1), (1, 2), (2, 3), (5, 5), (5, 6), (5, 7))
        paths = (((5, 7), (5, 5)), ((0, 0), (2, 3)), ((-9, 0), (-7, 0)))
        self.assertEqual(unsettled(corners, paths), (((-9, 0), (-7, 0)), (-8, 0)))
        self.assertEqual(unsettled(corners, paths[:2]), (((0, 0), (2, 3)), (1, 1)))
        self.assertEqual(unsettled(corners, paths[:1]), (((5, 5), (5, 7)), (5, 6)))
        # The first as tuples rise, though the line comes to it last.
        corners = ((0, 4), (1, 0), (1, 1), (1, 2), (2, -4))
        self.assertEqual(unsettled(corners, (((0, 4), (2, -4)),)), (((0, 4), (2, -4)), (1, 0)))
        self.check(corners, (((2, -4), (0, 4)),))

    def test_chains(self):
        for many in (1, 2, 5, 20):
            corners, paths = chain(many)
            self.assertEqual(self.check(corners, paths), many)
            self.assertEqual([len(done[0]) for done in doings(corners, paths)], list(range(3, many + 3)))
            self.assertEqual(self.check(corners, gone_back(paths)), many)

    def test_a_chain_of_a_hundred_corners(self):
        corners, paths = chain(98)
        self.assertEqual(len(corners), 100)
        told = doings(corners, paths)
        self.assertEqual([len(done[0]) for done in told], list(range(3, 101)))

    def test_some_paths_by_some_corners(self):
        most = 0
        for seed in range(8):
            for many, far in ((6, 4), (15, 7), (30, 9), (40, 60)):
                corners = some_corners(many, far, seed)
                most = max(most, self.check(corners, some_links(corners, 3, 6, seed)))
        self.assertGreater(most, 1)

    def test_by_all_corners_about(self):
        corners = corners_about(3)
        for seed in range(4):
            self.check(corners, some_links(corners, 3, 4, seed))

    def test_a_corner_comes_to_two_links_of_a_path(self):
        corners, path = ((0, 0), (0, 1), (5, 1), (10, 1)), ((0, 0), (10, 1), (0, 1))
        told = (((0, 0), (5, 1), (10, 1), (5, 1), (0, 1)),)
        self.assertEqual(keeps(self, again, corners, (path,)), told)
        self.assertEqual(doings(corners, (path,)), (told,))

    def test_sixty_corners(self):
        corners = some_corners(100, 60, 3)
        path = tuple(Random(5).sample(corners, 60))
        told = doings(corners, (path,) * 12)
        self.assertEqual(told, tuple(done * 12 for done in doings_by(corners, (path,))))
        self.assertIsNone(unsettled(corners, settled(corners, (path,))))
        row = tuple((k, 0) for k in range(100))
        self.assertEqual(settled(row, (row[:1] + row[-1:],)), (row,))
        self.assertEqual(settled(row, (row[20:80],) * 12), (row[20:80],) * 12)
        self.assertEqual(settled(row, (row[::9],) * 12), (row,) * 12)

    def test_at_the_bounds(self):
        corners = ((-MILLION, -MILLION), (-MILLION, MILLION), (0, 0), (0, 1), (1, 0), (MILLION, MILLION))
        self.check(corners, (((-MILLION, -MILLION), (MILLION, MILLION)), ((-MILLION, MILLION), (0, 1), (MILLION, MILLION))))
        self.check(some_corners(20, MILLION, 1), (some_corners(20, MILLION, 1),))
        low, high = (-MILLION, 0), (MILLION, 1)
        self.assertEqual(self.check((low, (0, 0), (0, 1), high), ((low, high),)), 1)
        self.assertEqual(again((low, (0, 0), (0, 1), high), ((high, low),)), ((high, (0, 1), (0, 0), low),))


class DrawingsTest(unittest.TestCase):
    def check(self, grain, lines):
        corners, paths = drawn(grain, lines)
        told = doings(corners, paths)
        self.assertEqual(told, doings_by(corners, paths))
        for n, done in enumerate((paths, *told)):
            for line, path in zip(lines, done):
                self.assertLessEqual(Fraction(*off_of(grain, line, path)), Fraction(n + 1, 2))
        last = settled(corners, paths)
        self.assertEqual(last, (paths, *told)[-1])
        self.assertIsNone(trouble_of(last), (grain, lines))
        for k, one in enumerate(last):
            for l, other in enumerate(last):
                self.assertLessEqual(len(passes(one, other)), len(passes(paths[k], paths[l])), (grain, lines, k, l))
        self.assertIsNone(unsettled(corners, last))
        self.assertEqual(settled(corners, last), last)
        return len(told)

    def test_drawings(self):
        for lines in DRAWINGS:
            for grain in GRAINS:
                self.check(grain, lines)

    def test_twelve_lines(self):
        found = {}
        for seed in range(4):
            for grain, far in ((1, 4), (1, 9), (2, 9), (3, 20), (10, 60)):
                many = self.check(grain, tuple(some_lines(12, far, seed)))
                found[many] = found.get(many, 0) + 1
        self.assertGreater(found.get(1, 0), 3)
        self.assertGreater(found.get(2, 0), 0)

    def test_slowly_told(self):
        corners, paths = drawn(2, tuple(some_lines(8, 9, 2)))
        last = settled(corners, paths)
        self.assertIsNone(trouble_by(last))
        for one in last:
            for other in last:
                self.assertLessEqual(len(passes_by(one, other)), 1)
        for seed in range(3):
            (one, other) = some_paths(2, 5, 12, seed)
            corners = tuple(sorted(set(one + other)))
            self.assertEqual(doings(corners, (one, other)), doings_by(corners, (one, other)))


if __name__ == "__main__":
    unittest.main()

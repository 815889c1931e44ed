"""[22]: walks along the halves of plane paths, and their areas."""

import unittest

from bent_reference import links_by, round_by
from bent_samples import QUARTER, SHEARS, along_a_row, gone_back, sheared, some_paths
from cornerlines.paths import drawn
from cornerlines.rounds import round_of
from cornerlines.settling import settled
from cornerlines.walks import walk_area, walks_of
from land_reference import area_by, halves_by, parts_by, walks_by
from land_samples import BOX, PLANES, any_planes, grid, long_grid, nested, square, twelve_lines
from samples import DRAWINGS, GRAINS, MILLION, turned_round
from things import keeps


class WalksCase(unittest.TestCase):
    def check(self, paths):
        """What the document says of all walks, and that it is what is told slowly."""
        walks = keeps(self, walks_of, paths)
        links = links_by(paths)
        self.assertEqual(walks, walks_by(links))
        self.assertEqual(walks, tuple(sorted(set(walks))))
        halves = [half for walk in walks for half in halves_by(walk)]
        self.assertEqual(sorted(halves), sorted([*links, *(link[::-1] for link in links)]))
        rounds = {corner: round_by(paths, corner) for link in links for corner in link}
        for walk in walks:
            own = halves_by(walk)
            self.assertEqual(own[0], min(own))
            for (one, other), (on, further) in zip(own, own[1:] + own[:1]):
                self.assertEqual(other, on)
                # The first one's next ahead is the last.
                self.assertEqual(rounds[other].index(further), (rounds[other].index(one) - 1) % len(rounds[other]))
            area = walk_area(walk)
            self.assertIs(type(area), int)
            self.assertEqual(area, area_by(walk))
        part = parts_by(links, rounds)
        rims = [walk for walk in walks if walk_area(walk) <= 0]
        self.assertEqual(len(rims), len({id(one) for one in part.values()}))
        self.assertEqual(len({id(part[rim[0]]) for rim in rims}), len(rims))
        self.assertEqual(sum(walk_area(walk) for walk in walks), 0)
        return walks


class WalksTest(WalksCase):
    def tells(self, told, *paths):
        self.assertEqual(self.check(paths), told)
        for other in (paths[::-1], gone_back(paths), paths * 2, paths + gone_back(paths)):
            self.assertEqual(walks_of(other), told)

    def test_no_walks(self):
        self.tells(())
        self.tells((), ((0, 0),))
        self.tells((), ((0, 0),), ((0, 0),), ((-5, 3),))

    def test_one_link(self):
        self.tells((((0, 0), (4, 1)),), ((0, 0), (4, 1)))
        self.tells((((-4, 7), (0, 0)),), ((0, 0), (-4, 7)))

    def test_trees(self):
        self.tells((((0, 0), (2, 0), (4, 0), (2, 0)),), ((0, 0), (2, 0), (4, 0)))
        # Coming to (2, 2) from the left, the link that goes up is come to ahead of the one down.
        self.tells((((0, 2), (2, 2), (2, 4), (2, 2), (4, 2), (2, 2), (2, 0), (2, 2)),),
                   ((0, 2), (2, 2), (4, 2)), ((2, 0), (2, 2), (2, 4)))

    def test_a_square(self):
        inside, outside = ((0, 0), (10, 0), (10, 10), (0, 10)), ((0, 0), (0, 10), (10, 10), (10, 0))
        self.tells((outside, inside), *BOX)
        self.assertEqual((walk_area(inside), walk_area(outside)), (200, -200))

    def test_a_square_with_a_tree_within(self):
        # Its least half is that on to (5, 4).
        inside = ((0, 0), (5, 4), (6, 4), (5, 4), (0, 0), (10, 0), (10, 10), (0, 10))
        self.tells((((0, 0), (0, 10), (10, 10), (10, 0)), inside), *BOX, ((0, 0), (5, 4), (6, 4)))
        self.assertEqual(walk_area(inside), 200)

    def test_parts_that_meet_at_a_corner(self):
        outside = ((0, 0), (0, 2), (2, 2), (2, 3), (3, 3), (3, 2), (2, 2), (2, 0))
        self.tells((outside, ((0, 0), (2, 0), (2, 2), (0, 2)), ((2, 2), (3, 2), (3, 3), (2, 3))),
                   *square(0, 0, 2), *square(2, 2, 1))
        self.assertEqual(walk_area(outside), -10)

    def test_a_walk_starts_at_its_least_half(self):
        # Twice at its least corner, and once from there to its least other one.
        rim = ((0, 0), (0, 3), (0, 0), (1, -3), (0, 0), (3, 1), (0, 0), (1, 2))
        paths = (((0, 0), (0, 3)), ((0, 0), (1, -3)), ((0, 0), (3, 1)), ((0, 0), (1, 2)))
        walks = self.check(paths)
        self.assertEqual(walks, (((0, 0), (0, 3), (0, 0), (1, 2), (0, 0), (3, 1), (0, 0), (1, -3)),))
        self.assertEqual(sorted(walks[0]), sorted(rim))

    def test_planes(self):
        for paths, many, lands in PLANES:
            self.assertEqual(len(self.check(paths)), many, paths)
            for rows in SHEARS:
                self.assertEqual(len(self.check(sheared(paths, rows))), many, paths)

    def test_parts_within_one_another(self):
        for deep in (2, 5, 9):
            paths = nested(deep, 10)
            self.assertEqual([walk_area(walk) for walk in self.check(paths)],
                             [sign * 8 * (10 - k) ** 2 for k in range(deep) for sign in (-1, 1)])

    def test_any_paths_of_one_plane(self):
        for paths in any_planes():
            self.check(paths)

    def test_drawings(self):
        for lines in DRAWINGS:
            for grain in GRAINS:
                self.check(drawn(grain, lines)[1])
                self.assertEqual(walks_of(drawn(grain, turned_round(lines))[1]), walks_of(drawn(grain, lines)[1]))

    def test_twelve_lines(self):
        for grain, lines in twelve_lines():
            corners, paths = drawn(grain, lines)
            self.check(paths)
            self.check(settled(corners, paths))

    def test_grids(self):
        self.assertEqual(len(self.check(grid(4, 1, 0))), 10)
        paths = long_grid(33898, -MILLION)
        self.assertEqual(len(self.check(paths)), 26)
        self.assertEqual(len(paths), 12)
        self.assertEqual([len(path) for path in paths], [60] * 12)
        self.check(sheared(long_grid(3, -90), SHEARS[4]))

    def test_one_long_path(self):
        row = along_a_row(60)
        self.tells((row + row[-2:0:-1],), row)

    def test_by_the_round_of_each_corner(self):
        for seed in range(8):
            paths = some_paths(6, 6, 12, seed)
            for walk in walks_of(paths):
                for one, (other, further) in zip(walk, halves_by(walk[1:] + walk[:1])):
                    order = round_of(paths, other)
                    self.assertEqual(order[order.index(one) - 1], further)


class AreaTest(unittest.TestCase):
    def test_areas(self):
        for walk, area in (
            (((0, 0), (4, 1)), 0), (((0, 0), (2, 0), (2, 2), (0, 2)), 8), (((0, 0), (0, 2), (2, 2), (2, 0)), -8),
            (((0, 0), (1, 0), (0, 1)), 1), (((5, 5), (6, 5), (5, 6)), 1), (((5, 6), (6, 5), (5, 5)), -1),
            (((0, 0), (10, 0), (10, 10), (0, 10), (0, 0), (5, 4), (6, 4), (5, 4)), 200), (((3, -7),), 0),
        ):
            self.assertEqual(keeps(self, walk_area, walk), area)
            self.assertEqual(walk_area(walk[::-1]), -area)

    def test_moved_and_turned(self):
        for seed in range(10):
            paths = some_paths(5, 5, 12, seed)
            told = sorted(walk_area(walk) for walk in walks_of(paths))
            moved = sheared(paths, ((1, 0, MILLION - 9), (0, 1, -MILLION)))
            self.assertEqual(sorted(walk_area(walk) for walk in walks_of(moved)), told)
            self.assertEqual(sorted(walk_area(walk) for walk in walks_of(sheared(paths, QUARTER))), told)
            wide = sheared(paths, ((7, 0, 0), (0, 7, 0)))
            self.assertEqual(sorted(walk_area(walk) for walk in walks_of(wide)), [49 * area for area in told])

    def test_at_the_bounds(self):
        walk = ((-MILLION, -MILLION), (MILLION, -MILLION), (MILLION, MILLION), (-MILLION, MILLION))
        self.assertEqual(walk_area(walk), 8 * MILLION ** 2)


if __name__ == "__main__":
    unittest.main()

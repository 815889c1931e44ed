"""[8]: what wants a corner, and the corners of a drawing ([3])."""

import unittest

from cornerlines.wants import corners_of, wants_of
from reference import wants_by
from samples import DRAWINGS, GRAINS, MILLION, some_lines, turned_round
from things import keeps


class WantsTest(unittest.TestCase):
    def test_no_lines(self):
        self.assertEqual(keeps(self, wants_of, 10, ()), ())
        self.assertEqual(keeps(self, corners_of, 10, ()), ())

    def test_one_line(self):
        told = (((0, 0), (("end", 0, 0),)), ((4, 1), (("end", 0, 1),)))
        self.assertEqual(keeps(self, wants_of, 10, (((0, 0), (40, 10)),)), told)
        self.assertEqual(keeps(self, corners_of, 10, (((0, 0), (40, 10)),)), ((0, 0), (4, 1)))

    def test_both_ends_in_one_cell(self):
        self.assertEqual(wants_of(10, (((1, 1), (-1, 2)),)), (((0, 0), (("end", 0, 0), ("end", 0, 1))),))

    def test_ends_at_the_rim(self):
        told = wants_of(10, (((5, 4), (-5, -6)),))
        self.assertEqual(told, (((0, -1), (("end", 0, 1),)), ((1, 0), (("end", 0, 0),))))
        told = wants_of(10, (((4, 5), (-6, -5)),))
        self.assertEqual(told, (((-1, 0), (("end", 0, 1),)), ((0, 1), (("end", 0, 0),))))

    def test_a_crossing_within_both(self):
        lines = (((0, 0), (40, 40)), ((0, 40), (40, 0)))
        told = (
            ((0, 0), (("end", 0, 0),)), ((0, 4), (("end", 1, 0),)), ((2, 2), (("cross", 0, 1),)),
            ((4, 0), (("end", 1, 1),)), ((4, 4), (("end", 0, 1),)),
        )
        self.assertEqual(keeps(self, wants_of, 10, lines), told)
        self.assertEqual(corners_of(10, lines), ((0, 0), (0, 4), (2, 2), (4, 0), (4, 4)))

    def test_a_crossing_on_the_rim(self):
        lines = (((-20, 5), (20, 5)), ((5, -20), (5, 20)))
        self.assertIn(((1, 1), (("cross", 0, 1),)), wants_of(10, lines))
        lines = (((0, 0), (1, 1)), ((0, 1), (1, 0)))
        self.assertIn(((1, 1), (("cross", 0, 1), ("end", 0, 1))), wants_of(1, lines))

    def test_a_crossing_just_beside_the_rim(self):
        lines = (((0, 0), (3, 1)), ((0, 1), (2, 0)), ((0, -9), (1, 9)))
        self.assertEqual(wants_of(2, lines), wants_by(2, lines))
        self.assertEqual(corners_of(2, lines), tuple(row[0] for row in wants_by(2, lines)))

    def test_a_crossing_at_an_end_of_one(self):
        told = dict(wants_of(10, (((0, 0), (40, 0)), ((20, 0), (20, 30)))))
        self.assertEqual(told[(2, 0)], (("cross", 0, 1), ("end", 1, 0)))

    def test_a_crossing_at_an_end_of_both(self):
        told = dict(wants_of(10, (((0, 0), (40, 0)), ((40, 30), (40, 0)))))
        self.assertEqual(told[(4, 0)], (("cross", 0, 1), ("end", 0, 1), ("end", 1, 1)))

    def test_a_stretch_is_no_crossing(self):
        for other in (((10, 0), (80, 0)), ((0, 0), (40, 0)), ((40, 0), (0, 0)), ((10, 0), (20, 0))):
            told = wants_of(10, (((0, 0), (40, 0)), other))
            self.assertTrue(all(want[0] == "end" for corner, wants in told for want in wants))
            self.assertEqual(sum(len(wants) for corner, wants in told), 4)

    def test_one_point_along_one_straight_line(self):
        told = dict(wants_of(10, (((0, 0), (40, 0)), ((40, 0), (80, 0)))))
        self.assertEqual(told[(4, 0)], (("cross", 0, 1), ("end", 0, 1), ("end", 1, 0)))
        self.assertEqual(sorted(told), [(0, 0), (4, 0), (8, 0)])

    def test_lines_are_numbered_from_nought(self):
        lines = (((0, 0), (40, 40)), ((90, 90), (91, 90)), ((0, 40), (40, 0)), ((20, 0), (20, 40)))
        told = dict(wants_of(10, lines))
        self.assertEqual(told[(2, 2)], (("cross", 0, 2), ("cross", 0, 3), ("cross", 2, 3)))

    def test_against_the_reference(self):
        for lines in DRAWINGS:
            for grain in GRAINS:
                told = keeps(self, wants_of, grain, lines)
                self.assertEqual(told, wants_by(grain, lines))
                self.assertEqual(keeps(self, corners_of, grain, lines), tuple(corner for corner, wants in told))
        for seed in range(12):
            for far in (4, 25, MILLION):
                lines = tuple(some_lines(seed + 1, far, seed))
                for grain in GRAINS:
                    told = wants_of(grain, lines)
                    self.assertEqual(told, wants_by(grain, lines))
                    self.assertEqual(corners_of(grain, lines), tuple(corner for corner, wants in told))

    def test_the_same_corners_in_another_order(self):
        for lines in (*DRAWINGS, *(tuple(some_lines(12, far, far)) for far in (3, 9, 60, MILLION))):
            for grain in GRAINS:
                corners = corners_of(grain, lines)
                self.assertEqual(corners, corners_of(grain, turned_round(lines)))
                self.assertEqual(corners, corners_of(grain, lines[3:] + lines[:3]))
                self.assertEqual(corners, tuple(sorted(set(corners))))


if __name__ == "__main__":
    unittest.main()

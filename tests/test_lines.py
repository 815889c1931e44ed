"""[4]: grains, points, lines, and the nearest corner of a point."""

import unittest

from cornerlines.lines import are_lines, corner_of, is_grain, is_line, is_point
from reference import corner_by
from things import GREAT, anything, keeps, nested

MILLION = 10 ** 6


class LinesTest(unittest.TestCase):
    def all_tell(self, call, told, things):
        for thing in things:
            self.assertIs(keeps(self, call, thing), told, (call.__name__, repr(thing)[:80]))

    def test_grains(self):
        self.all_tell(is_grain, True, (1, 2, 999, 1000, 1001, GREAT))
        self.all_tell(is_grain, False, (0, -1, -GREAT, True, False, None, "1", "", (1,), [1], {1: 1}, ()))

    def test_points(self):
        self.all_tell(is_point, True, ((0, 0), (1, -1), (MILLION, -MILLION), (GREAT, -GREAT), (5, 5)))
        wrong = (
            (), (1,), (1, 2, 3), (1, 1, 1), [1, 2], {1: 2}, (True, 1), (1, False), (None, 1), (1, "2"), "12",
            ((1, 2),), ((1, 2), (3, 4)), ([1], 2), 12, None, True,
        )
        self.all_tell(is_point, False, wrong)

    def test_lines(self):
        right = (((0, 0), (0, 1)), ((0, 0), (1, 0)), ((3, 4), (-3, -4)), ((GREAT, 0), (0, -GREAT)))
        self.all_tell(is_line, True, right)
        wrong = (
            ((0, 0), (0, 0)), ((GREAT, 1), (GREAT, 1)), ((0, 0),), ((0, 0), (1, 1), (2, 2)),
            ((0, 0), (0, 1), (0, 1)), [(0, 0), (0, 1)], ([0, 0], (0, 1)), ((0, 0), [0, 1]), ((0, 0), (0, True)),
            ((False, 0), (0, 1)), ((0, 0), (0,)), ((0, 0, 0), (0, 1)), ((0, 0), None), ((0, 0), "01"), (0, 0, 0, 1),
            (0, 1), {(0, 0): (0, 1)}, (((0, 0), (0, 1)),),
        )
        self.all_tell(is_line, False, wrong)

    def test_tuples_of_lines(self):
        one, other = ((0, 0), (0, 1)), ((5, 5), (-7, 9))
        self.all_tell(are_lines, True, ((), (one,), (one, other), (one, one), (one,) * 12, (one,) * 3000))
        wrong = (
            one, [one], [], {}, {one: other}, (one, None), (one, ((0, 0), (0, 0))), (None,), ((),), (one, [other]),
            (one, ((0, 0), (0, True))), None, "", ((one,),), (one, one, ()), (((0, 0), (0, 0)), one),
        )
        self.all_tell(are_lines, False, wrong)

    def test_anything_else_is_none_of_these(self):
        odd = [thing for thing in anything() if not isinstance(thing, int) or isinstance(thing, bool)]
        self.all_tell(is_grain, False, odd)
        for call in (is_point, is_line):
            self.all_tell(call, False, anything())
        self.all_tell(are_lines, False, [thing for thing in anything() if thing != ()])
        for kind in ("tuple", "list", "dict"):
            deep = nested(37, kind)
            self.all_tell(is_point, False, ((deep, 1), (1, deep)))
            self.all_tell(is_line, False, (((0, 0), deep), ((0, deep), (0, 1))))
            self.all_tell(are_lines, False, ((deep,), (((0, 0), (0, 1)), deep), (((0, 0), (deep, 1)),)))


class CornerOfTest(unittest.TestCase):
    def test_in_the_middle_of_cells(self):
        for i in (-3, -1, 0, 1, 7):
            for j in (-2, 0, 5):
                self.assertEqual(keeps(self, corner_of, 10, (10 * i, 10 * j)), (i, j))
                self.assertEqual(corner_of(10, (10 * i + 3, 10 * j - 4)), (i, j))

    def test_lesser_rims_belong_to_the_cell(self):
        self.assertEqual(corner_of(10, (5, 0)), (1, 0))
        self.assertEqual(corner_of(10, (4, 0)), (0, 0))
        self.assertEqual(corner_of(10, (-5, 0)), (0, 0))
        self.assertEqual(corner_of(10, (-6, 0)), (-1, 0))
        self.assertEqual(corner_of(10, (0, 5)), (0, 1))
        self.assertEqual(corner_of(10, (0, -5)), (0, 0))
        self.assertEqual(corner_of(10, (0, -6)), (0, -1))
        self.assertEqual(corner_of(10, (-15, 15)), (-1, 2))
        self.assertEqual(corner_of(10, (-16, 14)), (-2, 1))

    def test_odd_grains(self):
        self.assertEqual(corner_of(3, (1, -1)), (0, 0))
        self.assertEqual(corner_of(3, (2, -2)), (1, -1))
        self.assertEqual(corner_of(3, (4, 5)), (1, 2))
        self.assertEqual(corner_of(7, (3, 4)), (0, 1))
        self.assertEqual(corner_of(7, (-3, -4)), (0, -1))

    def test_the_least_and_the_greatest_grain(self):
        self.assertEqual(corner_of(1, (12, -7)), (12, -7))
        self.assertEqual(corner_of(1000, (499, -500)), (0, 0))
        self.assertEqual(corner_of(1000, (500, -501)), (1, -1))
        self.assertEqual(corner_of(1000, (1499, 1500)), (1, 2))

    def test_at_the_bounds(self):
        self.assertEqual(corner_of(1, (MILLION, -MILLION)), (MILLION, -MILLION))
        self.assertEqual(corner_of(1000, (MILLION, -MILLION)), (1000, -1000))
        self.assertEqual(corner_of(3, (MILLION, -MILLION)), (333333, -333333))
        self.assertEqual(corner_of(10 ** 30, (10 ** 31, -(10 ** 31))), (10, -10))

    def test_against_the_reference(self):
        for grain in (1, 2, 3, 4, 5, 10, 999, 1000):
            for x in range(-2 * grain - 1, 2 * grain + 2, max(1, grain // 7)):
                for y in (-grain, -grain // 2, 0, (grain + 1) // 2, grain // 2 + 1):
                    self.assertEqual(corner_of(grain, (x, y)), corner_by(grain, x, y))


if __name__ == "__main__":
    unittest.main()

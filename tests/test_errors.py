"""[27], [28] and the interface: what the program refuses with."""

import unittest

from cornerlines import errors

WITH_TEXT = ("NoText", "NoNumber", "TooMany", "NoName", "Taken", "NoLine", "NoBack", "NoRow")


class ErrorsTest(unittest.TestCase):
    def test_each_is_made_with_a_text(self):
        for name in WITH_TEXT:
            error = getattr(errors, name)("so it is")
            self.assertIsInstance(error, errors.DrawError, name)
            self.assertIsInstance(error, ValueError, name)
            self.assertEqual(str(error), "so it is")

    def test_draw_error_stands_right_under_value_error(self):
        self.assertEqual(errors.DrawError.__bases__, (ValueError,))
        self.assertEqual(str(errors.DrawError("why")), "why")

    def test_used_has_a_name(self):
        error = errors.Used("rim")
        self.assertEqual(error.name, "rim")
        self.assertIsInstance(error, errors.DrawError)
        self.assertIsInstance(error, ValueError)
        self.assertEqual(errors.Used("").name, "")
        self.assertIn("rim", str(error))

    def test_none_stands_under_another_one(self):
        kinds = [getattr(errors, name) for name in (*WITH_TEXT, "Used")]
        for one in kinds:
            for other in kinds:
                self.assertEqual(issubclass(one, other), one is other)
        self.assertEqual(len(set(kinds)), 9)

    def test_each_is_caught_by_its_own_name(self):
        for name in WITH_TEXT:
            with self.assertRaises(getattr(errors, name)):
                raise getattr(errors, name)("no")
        with self.assertRaises(errors.Used):
            raise errors.Used("rim")


if __name__ == "__main__":
    unittest.main()

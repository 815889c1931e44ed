"""[6]: lines and paths written and read, [11]: what a path is."""

import unittest

from cornerlines.errors import NoText
from cornerlines.texts import read_lines, read_paths, show_lines, show_paths
from things import GREAT, anything, keeps

ONE, OTHER = ((0, -12), (7, 30)), ((5, 5), (-6, 0))
THIRTY = "1" * 30


class TextsTest(unittest.TestCase):
    def refuses(self, read, text):
        for turn in (0, 1):
            try:
                told = read(text)
            except Exception as error:
                self.assertIs(error.__class__, NoText, repr(text)[:80])
            else:
                self.fail(f"{read.__name__} of {repr(text)[:80]} told {told}")

    def test_show_lines(self):
        self.assertEqual(keeps(self, show_lines, 10, (ONE, OTHER)), "grain 10\n0 -12 7 30\n5 5 -6 0")
        self.assertEqual(show_lines(1, (ONE, ONE)), "grain 1\n0 -12 7 30\n0 -12 7 30")
        self.assertEqual(show_lines(1000, ()), "grain 1000")

    def test_show_paths(self):
        self.assertEqual(keeps(self, show_paths, (((0, 0), (1, -1)), ((5, 6),))), "0 0, 1 -1\n5 6")
        self.assertEqual(show_paths(()), "")
        self.assertEqual(show_paths((((-3, 4),),)), "-3 4")

    def test_lines_are_read_as_they_were(self):
        far = ((10 ** 6, -(10 ** 6)), (-(10 ** 6), 10 ** 6))
        for grain in (1, 10, 1000, int(THIRTY)):
            for lines in ((), (ONE,), (ONE, OTHER), (OTHER, ONE, ONE), (far,) * 12, (ONE,) * 50):
                text = show_lines(grain, lines)
                self.assertEqual(keeps(self, read_lines, text), (grain, lines))

    def test_paths_are_read_as_they_were(self):
        long = tuple((k, -k) for k in range(60))
        right = ((), (((0, 0),),), (((0, 0), (1, -1)), ((0, 0),)), (long,) * 5, (((5, 5), (-5, 5)),) * 2)
        for paths in right:
            self.assertEqual(keeps(self, read_paths, show_paths(paths)), paths)

    def test_what_is_read_is_of_whole_numbers(self):
        grain, lines = read_lines("grain 2\n0 0 1 -1")
        self.assertEqual((grain, lines), (2, (((0, 0), (1, -1)),)))
        self.assertIs(type(grain), int)
        self.assertIs(type(lines[0][1][1]), int)
        self.assertIs(type(read_paths("0 0")[0]), tuple)

    def test_thirty_figures_are_read_and_no_more(self):
        number = int(THIRTY)
        self.assertEqual(read_lines(f"grain {THIRTY}"), (number, ()))
        self.assertEqual(read_lines(f"grain 1\n{THIRTY} -{THIRTY} 0 0"), (1, (((number, -number), (0, 0)),)))
        self.assertEqual(read_paths(f"-{THIRTY} {THIRTY}"), (((-number, number),),))
        nines = "9" * 30
        self.assertEqual(read_paths(f"{nines} 0"), (((int(nines), 0),),))
        self.refuses(read_lines, f"grain {THIRTY}1")
        self.refuses(read_lines, f"grain 1\n{THIRTY}1 0 0 0")
        self.refuses(read_lines, f"grain 1\n0 0 0 -{THIRTY}1")
        self.refuses(read_paths, f"{THIRTY}1 0")
        self.refuses(read_paths, f"0 -1{THIRTY}")
        self.refuses(read_paths, "9" * 3990 + " 0")

    def test_wrong_numbers(self):
        wrong = (
            "00", "01", "007", "-0", "-00", "-01", "+1", "+0", "--1", "-", "", "1-", "1.0", "1_0", "0x1", "1e3", "a", "/", ":",
            "one", "\t1", "1\t", "1\r", "(1)", "1,", ",1", "- 1", "\u0663", "\u00b2", "\uff11", "None", "True",
        )
        for word in wrong:
            self.refuses(read_lines, f"grain {word}")
            for k in range(4):
                words = ["3", "4", "5", "6"]
                words[k] = word
                self.refuses(read_lines, "grain 1\n" + " ".join(words))
            self.refuses(read_paths, f"{word} 3")
            self.refuses(read_paths, f"3 {word}")
            self.refuses(read_paths, f"1 1, 3 {word}")
            self.refuses(read_paths, f"{word} 3, 1 1")
            self.refuses(read_paths, f"1 1\n{word} 3")

    def test_wrong_grains(self):
        wrong = (
            "", "grain", "grain ", "grain 0", "grain -1", "grain 1 1", "grain  1", " grain 1", "grain 1 ", "Grain 1", "grains 1",
            "1", "grain\n1", "grain 1\n", "\ngrain 1", "grain 0\n0 0 1 1", "0 0 1 1", "grain 1\n\n0 0 1 1", "grain1",
            "grain\t1", "gran 1", "grain a", "1 grain", "0 0 1 1\ngrain 1", "grain 1\ngrain 1", "grain -0", "grain 1\r\n0 0 1 1",
        )
        for text in wrong:
            self.refuses(read_lines, text)

    def test_wrong_rows_of_lines(self):
        wrong = (
            "0 0 0 0", "5 -6 5 -6", "0 0 1", "0 0 1 1 1", "0 0 1 1 ", " 0 0 1 1", "0  0 1 1", "0 0 1  1", "0 0 1 1\n", "0 0 1 1\n\n",
            "\n0 0 1 1", "0 0, 1 1", "0,0,1,1", "0 0 1 x", "(0 0 1 1)", "line 0 0 1 1", "0 0 1 1\n1 1 1 1", "0 0 1 1\n0 0 1",
            "0\n0\n1\n1", "0 0 1 1\r", "0 0 1 1\x0b2 2 3 3", "0 0 1 1\x0c",
        )
        for rows in wrong:
            self.refuses(read_lines, "grain 1\n" + rows)

    def test_wrong_rows_of_paths(self):
        wrong = (
            "0 0, 0 0", "0 0, 1 1, 0 0", "0", "0 0 0", "0 0 1 1", "0 0,1 1", "0 0 , 1 1", "0 0,  1 1", "0 0, ", "0 0,", ", 0 0",
            " 0 0", "0 0 ", "0  0", "0 0, 1", "0 0, 1 1 1", "0 0\n", "\n0 0", "0 0\n\n1 1", "\n", " ", "0 0, 1 1,", "0 0,, 1 1",
            "0,0", "a b", "grain 1", "0 0\r\n1 1", "0 0; 1 1", "0 0\n1 1, 1 1", "0 0\x0b1 1", "0, 0", "none",
        )
        for text in wrong:
            self.refuses(read_paths, text)

    def test_alike_paths_and_corners_of_several_paths(self):
        self.assertEqual(read_paths("0 0\n0 0"), (((0, 0),), ((0, 0),)))

    def test_things_that_are_no_texts(self):
        odd = [thing for thing in anything() if not isinstance(thing, str)]
        odd += [("grain 1",), ["grain 1"], {"grain 1": 1}, ("",), [""], GREAT, (1, ())]
        for thing in odd:
            self.refuses(read_lines, thing)
            self.refuses(read_paths, thing)

    def test_long_texts(self):
        for text in (" " * 4000, "\n" * 4000, "-" * 4000, "1" * 4000, ", " * 2000, "0 0, " * 800, "1 " * 2000, "~" * 4000):
            self.refuses(read_lines, text)
            self.refuses(read_lines, "grain " + text)
            self.refuses(read_lines, "grain 1\n" + text)
            self.refuses(read_paths, text)


if __name__ == "__main__":
    unittest.main()

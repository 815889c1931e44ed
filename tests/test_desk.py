"""[28]: a desk, told by rows."""

import unittest
from copy import deepcopy

from cornerlines.desk import Desk
from cornerlines.errors import NoBack, NoLine, NoName, NoRow, Taken, TooMany, Used
from cornerlines.lands import land_area, lands_of
from cornerlines.offs import off_of
from cornerlines.paths import drawn
from cornerlines.settling import doings
from cornerlines.sides import passes
from cornerlines.texts import show_paths
from samples import some_lines
from things import anything

ROOD = "put a 0 0, put b 40 40, put c 0 40, put d 40 0, join x a b, join y c d"
BOXES = (
    "put a 0 0, put b 100 0, put c 100 100, put d 0 100, join ab a b, join bc b c, join cd c d, join da d a, "
    "put e 20 20, put f 80 20, put g 80 80, put h 20 80, join ef e f, join fg f g, join gh g h, join he h e"
)
NOTHING = ("corners", "settle", "lands", "where 0 0")
NO_ROWS = (
    # No words, or other ones.
    "", " ", "  ", "\n", "a", "ok", "none", "PUT a 0 0", "Put a 0 0", "puts a 0 0", "pu a 0 0", "points", "lines", "deeds", "moved",
    "say", "corner", "land", "pass a b", "passes", "0", "-0", "1 2", "~", "grain 10",
    # Too few or too many.
    "put", "put a", "put a 0", "put a 0 0 0", "move", "move a", "move a 1", "move a 1 1 1", "drop", "drop a b", "join", "join x",
    "join x a", "join x a b c", "cut", "cut x y", "back", "back 1 1", "path", "path x y", "corners a", "corners 1", "passes x",
    "passes x y x", "off", "off x y", "settle x", "settle 1", "lands 1", "lands x", "where", "where 1", "where 1 1 1",
    # Blanks.
    " put e 0 0", "put e 0 0 ", "put  e 0 0", "put e  0 0", "put e 0  0", " corners", "corners ", " settle", "settle ", "lands ",
    " drop a", "drop a ", "drop  a", "cut  x", "cut x ", "back  1", "back 1 ", "back ", "where 0 0 ", "where  0 0", "where 0  0",
    "where  0", "where 0 ", "put e 0 ", "path x ", "path  x", "off x ", "off  x", "join x a b ", "join  x a b", "join x  a b",
    "passes x y ", "passes  x y", "passes x  y", "put\te 0 0", "put e\t0 0",
    # Line ends.
    "corners\n", "\ncorners", "put e 0 0\n", "put e 0\n0", "put\ne 0 0", "put e 0 0\nput f 1 1", "drop a\n", "drop \n", "drop a\nb",
    "path x\n", "path \n", "cut x\n", "back 1\n", "settle\n", "lands\n", "where 0 0\n", "passes x y\n", "off x\n", "join z a b\n",
    # Numbers that are none.
    "put e 00 0", "put e 01 0", "put e 0 -0", "put e -0 0", "put e +1 0", "put e 1.0 0", "put e 1e3 0", "put e 0x1 0", "put e a b",
    "put e -01 0", "put e - 0", "put e --1 0", "put e 1_0 0", "put e 1, 0", "put e 1000001 0", "put e 0 1000001",
    "put e -1000001 0", "put e 0 -1000001", "put e 10000000000000000000000000000000 0", "put e \u0661 0", "put e \u00b2 0",
    "move a 00 0", "move a 0 1000001", "move a x y", "move a 1 -0", "back -0", "back 01", "back x", "back +1", "back 1000001",
    "back -1000001", "back 1.0", "where 0 01", "where 1000001 0", "where 0 -1000001", "where a b", "where -0 0", "where x 1",
    # Of what is no number a name that is none says nothing.
    "put E 01 0", "put  01 0", "move nope 01 0",
    # Alike words.
    "passes x x", "passes y y", "passes z z", "passes a a", "passes  ", "passes X X",
)


class DeskCase(unittest.TestCase):
    def made(self, text=ROOD):
        desk = Desk()
        self.rows(desk, text)
        return desk

    def rows(self, desk, text):
        """Several deeds."""
        for row in text.split(", "):
            self.tells(desk, row, "ok")

    def tells(self, desk, row, answer):
        told = desk.say(row)
        self.assertIs(type(told), str)
        self.assertEqual(told, answer, row)

    def asks(self, desk, row, answer):
        """What is told again, as nothing is done."""
        self.tells(desk, row, answer)
        self.tells(desk, row, answer)

    def all_of(self, desk):
        """Much that a desk tells, without changing it."""
        stand = desk.stand
        told = [desk.say(row) for row in NOTHING]
        return told, stand.points(), stand.lines(), stand.deeds(), stand.drawing(), stand.moved()

    def refuses(self, desk, row, error):
        before, thing = self.all_of(desk), deepcopy(row)
        with self.assertRaises(error) as caught:
            desk.say(row)
        self.assertIs(type(caught.exception), error, row)
        self.assertEqual(repr(thing), repr(row))
        self.assertEqual(self.all_of(desk), before)
        return caught.exception


class AnswersTest(DeskCase):
    def test_nothing_yet(self):
        desk = Desk()
        for row, answer in (("corners", "none"), ("settle", "0"), ("lands", "1"), ("where 0 0", "land 0"), ("back 0", "ok")):
            self.asks(desk, row, answer)

    def test_points_alone(self):
        desk = self.made("put a 0 0, put b 40 40")
        self.asks(desk, "corners", "none")
        self.asks(desk, "where 0 0", "land 0")

    def test_a_rood(self):
        desk = self.made()
        for row, answer in (
            ("path x", "0 0, 2 2, 4 4"), ("path y", "0 4, 2 2, 4 0"), ("corners", "0 0, 0 4, 2 2, 4 0, 4 4"),
            ("passes x y", "1"), ("passes y x", "1"), ("off x", "0 / 1"), ("settle", "0"), ("lands", "1"),
            ("where 20 20", "corner 2 2"), ("where 0 40", "corner 0 4"), ("where 10 10", "link 0 0 , 2 2"),
            ("where 15 25", "link 0 4 , 2 2"), ("where 25 15", "link 2 2 , 4 0"), ("where 5 6", "land 0"),
            ("where -50 -50", "land 0"), ("where 50 50", "land 0"),
        ):
            self.asks(desk, row, answer)

    def test_of_one_corner(self):
        desk = self.made("put a 0 0, put b 3 -4, join x a b")
        self.asks(desk, "path x", "0 0")
        self.asks(desk, "corners", "0 0")
        self.asks(desk, "off x", "0 / 1")
        self.asks(desk, "where 0 0", "corner 0 0")
        self.asks(desk, "where 3 -4", "land 0")

    def test_offs(self):
        desk = self.made("put a 3 -4, put b 43 36, join x a b")
        self.asks(desk, "path x", "0 0, 4 4")
        self.asks(desk, "off x", "2 / 5")
        desk = self.made("put a 5 5, put b 100 0, join x a b")
        self.asks(desk, "off x", "{} / {}".format(*off_of(10, ((5, 5), (100, 0)), ((1, 1), (10, 0)))))

    def test_negative_corners(self):
        desk = self.made("put a -40 -40, put b 40 -41, join x a b")
        self.asks(desk, "path x", "-4 -4, 4 -4")
        self.asks(desk, "corners", "-4 -4, 4 -4")
        self.asks(desk, "where -40 -40", "corner -4 -4")
        self.asks(desk, "where 39 -40", "link -4 -4 , 4 -4")

    def test_deeds(self):
        desk = self.made()
        self.rows(desk, "move b 40 80")
        self.asks(desk, "path x", "0 0, 1 3, 4 8")
        self.rows(desk, "cut y")
        self.asks(desk, "path x", "0 0, 4 8")
        self.rows(desk, "drop c, drop d")
        self.asks(desk, "corners", "0 0, 4 8")
        self.rows(desk, "back 7")
        self.asks(desk, "path x", "0 0, 1 3, 4 8")
        self.rows(desk, "back 6")
        self.asks(desk, "path x", "0 0, 2 2, 4 4")
        self.rows(desk, "back 0")
        self.asks(desk, "corners", "none")
        self.rows(desk, ROOD)

    def test_lands(self):
        desk = self.made(BOXES)
        self.asks(desk, "lands", "3 128 72")
        self.asks(desk, "where 50 10", "land 1")
        self.asks(desk, "where 50 50", "land 2")
        self.asks(desk, "where 50 100", "link 0 10 , 10 10")
        self.asks(desk, "where 80 20", "corner 8 2")
        self.asks(desk, "where -1 50", "land 0")
        self.asks(desk, "settle", "0")
        self.rows(desk, "back 8")
        self.asks(desk, "lands", "2 200")
        self.asks(desk, "where 50 50", "land 1")
        self.rows(desk, "cut da")
        self.asks(desk, "lands", "1")

    def test_of_the_bent_drawing(self):
        # Where the straight line is there is no link, and where the link is no line.
        desk = self.made("put a 0 0, put b 100 0, put c 50 4, put d 50 -60, join x a b, join y c d")
        self.asks(desk, "where 20 0", "link 0 0 , 5 0")
        desk = self.made("put a 0 4, put b 100 4, join x a b")
        self.asks(desk, "where 20 0", "link 0 0 , 10 0")
        self.asks(desk, "where 20 4", "land 0")

    def test_settle(self):
        for seed in range(60):
            lines = some_lines(8, 60, seed)
            corners, paths = drawn(10, tuple(lines))
            many = len(doings(corners, paths))
            if many:
                desk = Desk()
                self.draw(desk, lines)
                self.asks(desk, "settle", str(many))
                return
        self.fail("none of these is done again")

    def draw(self, desk, lines):
        """Lines by the names la, lb .., whose ends are p and q, without a point of their own for each if alike."""
        names = {}
        for k, line in enumerate(lines):
            for point in line:
                if point not in names:
                    names[point] = "p" + "abcdefghijklmnopqr"[len(names)]
                    self.tells(desk, f"put {names[point]} {point[0]} {point[1]}", "ok")
            name = "l" + "abcdefghijkl"[k]
            self.tells(desk, f"join {name} {names[line[0]]} {names[line[1]]}", "ok")

    def test_any_drawings(self):
        for seed in range(12):
            lines = some_lines(8, 50, seed)
            desk = Desk()
            self.draw(desk, lines)
            corners, paths = drawn(10, tuple(lines))
            self.asks(desk, "corners", show_paths((corners,)))
            self.asks(desk, "settle", str(len(doings(corners, paths))))
            lands = lands_of(paths)
            self.asks(desk, "lands", " ".join(map(str, [len(lands), *map(land_area, lands[1:])])))
            for k, path in enumerate(paths):
                name = "l" + "abcdefgh"[k]
                self.asks(desk, f"path {name}", show_paths((path,)))
                self.asks(desk, f"off {name}", "{} / {}".format(*off_of(10, lines[k], path)))
                for l in range(8):
                    if l != k:
                        self.asks(desk, f"passes {name} l{'abcdefgh'[l]}", str(len(passes(path, paths[l]))))

    def test_at_the_bounds(self):
        desk = self.made("put a -1000000 -1000000, put b 1000000 1000000, put c 0 0, join x a b, move c 1000000 -1000000")
        self.asks(desk, "path x", "-100000 -100000, 100000 100000")
        self.asks(desk, "where 1000000 1000000", "corner 100000 100000")
        self.asks(desk, "where -1000000 1000000", "land 0")
        self.refuses(desk, "back 1000000", NoBack)
        self.refuses(desk, "back -1000000", NoBack)
        self.refuses(desk, "move a 1000001 0", NoRow)

    def test_two_desks_by_turns(self):
        one, other = Desk(), Desk()
        for row in ROOD.split(", "):
            self.tells(one, row, "ok")
            self.tells(other, row, "ok")
        self.tells(one, "back 0", "ok")
        self.asks(other, "path x", "0 0, 2 2, 4 4")
        self.asks(one, "corners", "none")


class RefusalsTest(DeskCase):
    def test_no_rows(self):
        desk = self.made()
        for row in NO_ROWS:
            self.refuses(desk, row, NoRow)

    def test_no_rows_of_an_empty_desk(self):
        for row in NO_ROWS:
            self.refuses(Desk(), row, NoRow)

    def test_no_texts(self):
        desk = self.made()
        for thing in (*anything(), ("corners",), ["corners"], ["put", "e", "0", "0"], {"corners": "corners"}, ("put", "e", 0, 0)):
            self.refuses(desk, thing, NoRow)

    def test_as_the_stand_refuses(self):
        desk = self.made()
        for row, error in (
            ("put E 0 0", NoName), ("put abcdefghi 0 0", NoName), ("put a1 0 0", NoName), ("put a 0 0", Taken), ("put 1 0 0", NoName),
            ("move e 0 0", NoName), ("move x 0 0", NoName), ("move a 40 40", NoLine), ("move -1 0 0", NoName),
            ("drop e", NoName), ("drop x", NoName), ("drop 7", NoName), ("drop a", Used), ("drop d", Used),
            ("join z a e", NoName), ("join z e a", NoName), ("join Z a b", NoName), ("join x a b", Taken), ("join z a a", NoLine),
            ("join x a e", NoName), ("join x a a", Taken), ("cut a", NoName), ("cut z", NoName), ("path a", NoName), ("path z", NoName),
            ("off a", NoName), ("off z", NoName), ("passes x z", NoName), ("passes z x", NoName), ("passes a b", NoName),
            ("back 7", NoBack), ("back -1", NoBack), ("back 1000000", NoBack),
        ):
            self.refuses(desk, row, error)
        self.assertEqual(self.refuses(desk, "drop c", Used).name, "y")

    def test_words_without_signs(self):
        desk = self.made()
        for row in (
            "put  0 0", "move  0 0", "drop ", "cut ", "path ", "off ", "join  a b", "join z  b", "join z a ", "join   ",
            "passes x ", "passes  x",
        ):
            self.refuses(desk, row, NoName)

    def test_too_many(self):
        desk = self.made(BOXES + ", join i a c, join j b d, join k a e, join l b f")
        self.refuses(desk, "join m c g", TooMany)
        self.rows(desk, ", ".join(f"put {name} 7 7" for name in "ijklmnop"))
        self.refuses(desk, "put q 7 7", TooMany)
        self.refuses(desk, "put p 7 7", Taken)
        self.refuses(desk, "put P 7 7", NoName)
        self.refuses(desk, "join l c g", Taken)
        self.refuses(desk, "join m c c", NoLine)

    def test_what_is_refused_is_no_deed(self):
        desk = self.made()
        for row in ("put a 1 1", "put e 01 1", "cut z", "nothing"):
            with self.assertRaises((NoRow, Taken, NoName)):
                desk.say(row)
        self.tells(desk, "back 6", "ok")
        self.refuses(desk, "back 7", NoBack)


if __name__ == "__main__":
    unittest.main()

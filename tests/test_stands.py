"""[27]: points and lines that come and go by names, and are taken back; of [3] what speaks of that."""

import unittest
from copy import deepcopy
from random import Random
from re import fullmatch

from cornerlines.errors import NoBack, NoLine, NoName, Taken, TooMany, Used
from cornerlines.paths import drawn
from cornerlines.stands import Stand
from reference import path_by, wants_by
from samples import MILLION
from things import GREAT, anything, is_plain, nested

NO_NAMES = (
    "", "abcdefghi", "A", "aB", "Abc", "a1", "1", "a b", " a", "a ", "a\n", "\n", "a-", "_", "a_b", "\u00e9", "\u03b1",
    "\u0430", "\u00df", "\uff41", "a\u0301", "~", "'a'", "a" * 4000, "\n" * 4000,
)
WORDS = "a b c d e f g h i j k l m n o p q r".split()


def all_of(stand):
    """All that a stand tells."""
    paths = tuple(stand.path(row[0]) for row in stand.lines())
    return stand.points(), stand.lines(), stand.deeds(), stand.drawing(), paths, stand.moved()


class Shadow:
    """What a stand must tell, kept by the test itself."""

    def __init__(self, test, grain, slowly=False):
        self.test, self.grain, self.slowly = test, grain, slowly
        self.stand = Stand(grain)
        self.kept = [((), ())]
        self.ahead = self.kept[0]
        self.check()

    def sheet(self, points, lines):
        """((corners, paths), {name: path})."""
        places = dict(points)
        rows = tuple((places[one], places[other]) for name, one, other in lines)
        if self.slowly:
            corners = tuple(corner for corner, wants in wants_by(self.grain, rows))
            drawing = (corners, tuple(path_by(self.grain, line, corners) for line in rows))
        else:
            drawing = drawn(self.grain, rows)
        return drawing, {row[0]: path for row, path in zip(lines, drawing[1])}

    def check(self):
        told = all_of(self.stand)
        self.test.assertTrue(is_plain(told))
        self.test.assertEqual(repr(told), repr(all_of(self.stand)))
        points, lines = self.kept[-1]
        drawing, paths = self.sheet(points, lines)
        before = self.sheet(*self.ahead)[1]
        moved = tuple(sorted(name for name in paths if name in before and before[name] != paths[name]))
        self.test.assertEqual(told, (points, lines, len(self.kept) - 1, drawing, drawing[1], moved))

    def do(self, word, *things):
        """A deed that is not refused; what must stand behind it."""
        points, lines = self.kept[-1]
        if word == "put":
            points += (things,)
        elif word == "move":
            points = tuple(things if row[0] == things[0] else row for row in points)
        elif word == "drop":
            points = tuple(row for row in points if row[0] != things[0])
        elif word == "join":
            lines += (things,)
        else:
            lines = tuple(row for row in lines if row[0] != things[0])
        self.test.assertIsNone(getattr(self.stand, word)(*things))
        self.ahead = self.kept[-1]
        self.kept.append((points, lines))
        self.check()

    def rows(self, text):
        """Several deeds, written."""
        for row in text.split(", "):
            word, *things = row.split()
            if word in ("put", "move"):
                things = (things[0], (int(things[1]), int(things[2])))
            self.do(word, *things)

    def back(self, many):
        self.test.assertIsNone(self.stand.back(many))
        self.kept = self.kept[:many + 1]
        self.ahead = self.kept[-1]
        self.check()

    def refuse(self, error, word, *things):
        before = deepcopy(things)
        with self.test.assertRaises(error) as caught:
            getattr(self.stand, word)(*things)
        self.test.assertIs(type(caught.exception), error, (word, things))
        self.test.assertEqual(repr(things), repr(before))
        self.check()
        return caught.exception


ROOD = "put a 0 0, put b 40 40, put c 0 40, put d 40 0, join x a b, join y c d"


class StandCase(unittest.TestCase):
    def made(self, text=ROOD, grain=10):
        shadow = Shadow(self, grain)
        shadow.rows(text)
        return shadow


class DeedsTest(StandCase):
    def test_nothing_yet(self):
        self.assertEqual(all_of(Stand(10)), ((), (), 0, ((), ()), (), ()))

    def test_points_and_lines(self):
        stand = self.made().stand
        self.assertEqual(stand.points(), (("a", (0, 0)), ("b", (40, 40)), ("c", (0, 40)), ("d", (40, 0))))
        self.assertEqual(stand.lines(), (("x", "a", "b"), ("y", "c", "d")))
        self.assertEqual(stand.deeds(), 6)
        self.assertEqual(stand.path("x"), ((0, 0), (2, 2), (4, 4)))
        self.assertEqual(stand.path("y"), ((0, 4), (2, 2), (4, 0)))
        corners = ((0, 0), (0, 4), (2, 2), (4, 0), (4, 4))
        self.assertEqual(stand.drawing(), (corners, (stand.path("x"), stand.path("y"))))
        self.assertEqual(stand.moved(), ("x",))

    def test_in_the_order_they_came(self):
        shadow = self.made("put z 0 0, put b 9 9, put m 40 0, join zz z b, join a b m, join m m z")
        self.assertEqual([name for name, point in shadow.stand.points()], ["z", "b", "m"])
        self.assertEqual([row[0] for row in shadow.stand.lines()], ["zz", "a", "m"])
        shadow.rows("move z 1 1, cut zz, join zz b z")
        self.assertEqual([name for name, point in shadow.stand.points()], ["z", "b", "m"])
        self.assertEqual([row[0] for row in shadow.stand.lines()], ["a", "m", "zz"])
        shadow.rows("cut m, cut zz, drop z, put z 5 5")
        self.assertEqual([name for name, point in shadow.stand.points()], ["b", "m", "z"])

    def test_a_point_and_a_line_of_one_name(self):
        shadow = self.made("put a 0 0, put b 40 0, join a a b, join b b a")
        self.assertEqual(shadow.stand.path("a"), ((0, 0), (4, 0)))
        self.assertEqual(shadow.stand.path("b"), ((4, 0), (0, 0)))
        self.assertEqual(shadow.refuse(Used, "drop", "b").name, "a")
        shadow.rows("cut a, cut b, drop a")
        self.assertEqual(shadow.stand.points(), (("b", (40, 0)),))

    def test_names(self):
        shadow = Shadow(self, 10)
        for name in ("a", "z", "abcdefgh", "zzzzzzzz", "put", "none"):
            shadow.do("put", name, (0, len(shadow.kept)))
        shadow.do("join", "abcdefgh", "a", "abcdefgh")
        shadow.do("join", "qqqqqqqq", "z", "zzzzzzzz")

    def test_moved_points(self):
        shadow = self.made()
        shadow.do("move", "b", (40, 80))
        self.assertEqual(shadow.stand.path("x"), ((0, 0), (1, 3), (4, 8)))
        self.assertEqual(shadow.stand.moved(), ("x", "y"))
        shadow.do("move", "b", (41, 81))
        self.assertEqual(shadow.stand.moved(), ())
        # To where it is: a deed all the same.
        shadow.do("move", "b", (41, 81))
        self.assertEqual((shadow.stand.deeds(), shadow.stand.moved()), (9, ()))
        # A point at which no line ends.
        shadow.rows("put e 7 7, move e 20 20")
        self.assertEqual(shadow.stand.moved(), ())

    def test_points_at_one_place(self):
        # Points may lie at one place, but not both of one line.
        shadow = self.made("put a 0 0, put b 0 0, put c 40 0, join x a c, join y b c")
        shadow.do("move", "b", (20, 0))
        shadow.do("move", "b", (0, 0))
        shadow.refuse(NoLine, "join", "z", "a", "b")

    def test_moved_lines(self):
        shadow = self.made("put a 0 0, put b 80 0, put c 20 3, put d 20 60, join z a b, join y c d")
        # The one put has not moved, the one that stood has.
        self.assertEqual(shadow.stand.moved(), ("z",))
        shadow.rows("join b a b, join a b a")
        self.assertEqual(shadow.stand.moved(), ())
        shadow.rows("cut y")
        self.assertEqual(shadow.stand.moved(), ("a", "b", "z"))
        shadow.rows("cut z")
        self.assertEqual(shadow.stand.moved(), ())
        shadow.rows("join y c d")
        self.assertEqual(shadow.stand.moved(), ("a", "b"))
        # What is refused is no deed.
        shadow.refuse(NoName, "cut", "z")
        shadow.refuse(NoLine, "move", "c", (20, 60))
        self.assertEqual(shadow.stand.moved(), ("a", "b"))
        shadow.do("put", "q", (9, 9))
        self.assertEqual(shadow.stand.moved(), ())

    def test_dropped_points(self):
        shadow = self.made()
        shadow.rows("cut y, drop c, drop d, cut x, drop a, drop b")
        self.assertEqual(all_of(shadow.stand), ((), (), 12, ((), ()), (), ()))
        shadow.rows(ROOD)

    def test_any_deeds(self):
        for seed, grain, far in ((1, 10, 40), (2, 1, 3), (3, 3, 9), (4, 1000, MILLION)):
            chance = Random(seed)
            shadow = Shadow(self, grain)
            for step in range(70):
                self.any_deed(shadow, chance, far)

    def test_told_slowly(self):
        chance = Random(9)
        shadow = Shadow(self, 4, True)
        for step in range(40):
            self.any_deed(shadow, chance, 14)
            if len(shadow.kept[-1][1]) > 5:
                shadow.back(len(shadow.kept) // 2)

    def any_deed(self, shadow, chance, far):
        """A deed that isn't refused, or else a back."""
        points, lines = shadow.kept[-1]
        point = (chance.randint(-far, far), chance.randint(-far, far))
        names, places = [name for name, place in points], dict(points)
        word = chance.choice(("put", "move", "move", "drop", "join", "join", "join", "cut", "back"))
        some = [(one, other) for one in names for other in names if places[one] != places[other]]
        free = [name for name in WORDS if name not in [row[0] for row in lines]]
        if word == "put" and len(points) < 16 or len(points) < 4:
            shadow.do("put", [name for name in WORDS if name not in names][0], point)
        elif word == "move":
            name = chance.choice(names)
            others = [part for row in lines if name in row[1:] for part in row[1:] if part != name]
            if point not in [places[other] for other in others]:
                shadow.do("move", name, point)
        elif word == "drop":
            idle = [name for name in names if not any(name in row[1:] for row in lines)]
            if idle:
                shadow.do("drop", chance.choice(idle))
        elif word == "join" and some and len(lines) < 12:
            shadow.do("join", chance.choice(free), *chance.choice(some))
        elif word == "cut" and lines:
            shadow.do("cut", chance.choice(lines)[0])
        elif word == "back":
            shadow.back(max(0, len(shadow.kept) - 1 - chance.choice((0, 1, 1, 2, 5))))

    def test_two_stands_by_turns(self):
        one, other = Shadow(self, 10), Shadow(self, 3)
        for row in ROOD.split(", "):
            one.rows(row)
            other.check()
            other.rows(row)
            one.check()
        one.back(2)
        other.check()
        other.rows("cut x")
        one.check()
        self.assertEqual((one.stand.deeds(), other.stand.deeds()), (2, 7))


class BackTest(StandCase):
    def test_to_each_number(self):
        for many in range(7):
            shadow = self.made()
            shadow.back(many)
            self.assertEqual(shadow.stand.deeds(), many)
            self.assertEqual(shadow.stand.moved(), ())
            # The others are gone.
            shadow.refuse(NoBack, "back", many + 1)
            shadow.back(many)

    def test_step_by_step(self):
        shadow = self.made(ROOD + ", move a 3 3, cut x, drop b, put b 7 9, join q b d")
        for many in range(11, -1, -1):
            shadow.back(many)

    def test_deeds_behind_a_back(self):
        shadow = self.made()
        shadow.back(5)
        self.assertEqual(shadow.stand.lines(), (("x", "a", "b"),))
        shadow.rows("join z d c")
        self.assertEqual(shadow.stand.moved(), ("x",))
        self.assertEqual(shadow.stand.deeds(), 6)
        shadow.back(0)
        shadow.rows(ROOD)

    def test_what_is_refused_is_no_deed(self):
        shadow = self.made()
        shadow.refuse(Taken, "put", "a", (1, 1))
        self.assertEqual(shadow.stand.deeds(), 6)
        shadow.refuse(NoBack, "back", 7)
        shadow.back(5)
        # A back is none, either.
        self.assertEqual(shadow.stand.deeds(), 5)

    def test_of_a_back_nothing_moved(self):
        shadow = self.made()
        shadow.back(6)
        self.assertEqual(shadow.stand.moved(), ())
        shadow.refuse(NoName, "cut", "z")
        self.assertEqual(shadow.stand.moved(), ())

    def test_no_back(self):
        shadow = self.made()
        for many in (7, 8, 100, GREAT, -1, -6, -7, -GREAT, True, False, None, "0", "", "3", (0,), (), [0], [], {}, {0: 0}):
            shadow.refuse(NoBack, "back", many)
        for thing in anything():
            if isinstance(thing, bool) or not isinstance(thing, int) or not 0 <= thing <= 6:
                shadow.refuse(NoBack, "back", thing)
        fresh = Shadow(self, 10)
        for many in (1, -1, None, True, False):
            fresh.refuse(NoBack, "back", many)
        fresh.back(0)


class RefusalsTest(StandCase):
    def test_no_names(self):
        shadow = self.made()
        for name in (*NO_NAMES, *anything()):
            if not isinstance(name, str) or not fullmatch("[a-z]{1,8}", name):
                shadow.refuse(NoName, "put", name, (1, 1))
                shadow.refuse(NoName, "move", name, (1, 1))
                shadow.refuse(NoName, "drop", name)
                shadow.refuse(NoName, "join", name, "a", "b")
                shadow.refuse(NoName, "join", "z", name, "b")
                shadow.refuse(NoName, "join", "z", "a", name)
                shadow.refuse(NoName, "cut", name)
                shadow.refuse(NoName, "path", name)
        for name in (nested(40, "list"), nested(40, "dict"), ("a",), ["x"], {"a": "a"}):
            shadow.refuse(NoName, "put", name, (1, 1))
            shadow.refuse(NoName, "path", name)

    def test_names_that_do_not_stand(self):
        shadow = self.made()
        for word, things in (
            ("move", ("e", (1, 1))), ("move", ("x", (1, 1))), ("drop", ("e",)), ("drop", ("x",)), ("cut", ("a",)),
            ("cut", ("z",)), ("path", ("a",)), ("path", ("z",)), ("join", ("z", "e", "a")), ("join", ("z", "a", "e")),
            ("join", ("z", "x", "a")), ("join", ("z", "e", "e")),
        ):
            shadow.refuse(NoName, word, *things)

    def test_put(self):
        shadow = self.made()
        shadow.refuse(Taken, "put", "a", (9, 9))
        shadow.refuse(Taken, "put", "a", (0, 0))
        for name in "efghijklmnop":
            shadow.do("put", name, (5, 5))
        self.assertEqual(len(shadow.stand.points()), 16)
        shadow.refuse(TooMany, "put", "q", (9, 9))
        # What its paragraph names first goes first.
        shadow.refuse(Taken, "put", "p", (9, 9))
        shadow.refuse(NoName, "put", "Q", (9, 9))
        shadow.refuse(NoName, "put", ["a"], (9, 9))
        shadow.do("move", "p", (9, 9))
        shadow.do("drop", "p")
        shadow.do("put", "q", (9, 9))
        shadow.refuse(TooMany, "put", "p", (9, 9))

    def test_move(self):
        shadow = self.made()
        shadow.refuse(NoLine, "move", "a", (40, 40))
        shadow.refuse(NoLine, "move", "b", (0, 0))
        shadow.refuse(NoLine, "move", "c", (40, 0))
        # Where a point lies that is not of that line.
        shadow.do("move", "a", (0, 40))
        shadow.refuse(NoName, "move", "e", (40, 40))
        shadow.do("cut", "x")
        shadow.do("move", "a", (40, 40))

    def test_move_of_the_second_of_two_lines(self):
        shadow = self.made(ROOD + ", join z a d")
        shadow.refuse(NoLine, "move", "a", (40, 0))
        shadow.refuse(NoLine, "move", "d", (0, 0))
        shadow.refuse(NoLine, "move", "d", (0, 40))

    def test_drop(self):
        shadow = self.made(ROOD + ", join b a d, join a b a")
        for name, line in (("a", "x"), ("b", "x"), ("c", "y"), ("d", "y")):
            self.assertEqual(shadow.refuse(Used, "drop", name).name, line)
        # The first in order, not the first by its name.
        shadow.do("cut", "x")
        self.assertEqual(shadow.refuse(Used, "drop", "a").name, "b")
        self.assertEqual(shadow.refuse(Used, "drop", "b").name, "a")
        shadow.do("cut", "b")
        self.assertEqual(shadow.refuse(Used, "drop", "a").name, "a")
        shadow.do("cut", "a")
        shadow.do("drop", "a")
        shadow.refuse(NoName, "drop", "a")

    def test_join(self):
        shadow = self.made()
        shadow.refuse(Taken, "join", "x", "a", "c")
        shadow.refuse(NoLine, "join", "z", "a", "a")
        shadow.do("put", "e", (0, 0))
        shadow.refuse(NoLine, "join", "z", "a", "e")
        # NoName, Taken, NoLine.
        shadow.refuse(NoName, "join", "x", "a", "q")
        shadow.refuse(NoName, "join", "X", "a", "a")
        shadow.refuse(Taken, "join", "x", "a", "a")
        for name in "efghijklmn":
            shadow.do("join", name, "a", "b")
        self.assertEqual(len(shadow.stand.lines()), 12)
        shadow.refuse(TooMany, "join", "o", "a", "b")
        shadow.refuse(NoLine, "join", "o", "a", "e")
        shadow.refuse(Taken, "join", "n", "a", "a")
        shadow.refuse(Taken, "join", "n", "a", "b")
        shadow.refuse(NoName, "join", "o", "a", "q")
        shadow.refuse(NoName, "join", "", "a", "b")
        shadow.do("cut", "n")
        shadow.do("join", "o", "b", "a")
        shadow.refuse(TooMany, "join", "n", "a", "b")

    def test_on_an_empty_stand(self):
        shadow = Shadow(self, 10)
        shadow.refuse(NoName, "move", "a", (0, 0))
        shadow.refuse(NoName, "drop", "a")
        shadow.refuse(NoName, "join", "x", "a", "b")
        shadow.refuse(NoName, "cut", "x")
        shadow.refuse(NoName, "path", "x")

    def test_what_is_handed_in_stays(self):
        point = (3, 4)
        stand = Stand(10)
        stand.put("a", point)
        stand.move("a", point)
        self.assertEqual(point, (3, 4))
        told = stand.points()
        stand.move("a", (5, 6))
        self.assertEqual(told, (("a", (3, 4)),))


if __name__ == "__main__":
    unittest.main()

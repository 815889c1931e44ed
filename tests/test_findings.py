"""[29]: findings, and whether they hold."""

import unittest
from copy import deepcopy
from fractions import Fraction

from cornerlines.bentwalks import bent_walk
from cornerlines.crossing import common_paper
from cornerlines.findings import finding_holds
from cornerlines.offs import off_of, off_paper
from cornerlines.pathchecks import path_paper
from cornerlines.paths import drawn
from cornerlines.settling import settled
from cornerlines.sides import passes, sides_paper
from cornerlines.sources import sources
from cornerlines.straights import straight_walks
from cornerlines.walks import walks_of
from cornerlines.wantchecks import unwanted_paper
from land_samples import BOX, PLANES, STRAIGHTS, grid_lines, long_grid, long_lines, square, square_lines
from samples import DRAWINGS, GRAINS, MILLION, PAIRS, some_lines
from things import GREAT, anything, nested, spoilt, spoilt_within

ROOD = (((0, 0), (40, 40)), ((0, 40), (40, 0)), ((0, 23), (40, 23)))
CORNERS, PATHS = drawn(10, ROOD)
# A path that comes to the middle of the first one from the left, and goes on to the left.
BESIDE = ((0, 4), (2, 2), (0, 3))
NARROW = (((0, 0), (100, 2)), ((100, 2), (0, 9)), ((0, 9), (0, 0)), ((30, -15), (31, 5)))
PAPERS = {
    "common": ("common", ROOD[0], ROOD[1], common_paper(*ROOD[:2])),
    "unwanted": ("unwanted", 10, ROOD, (1, 1), unwanted_paper(10, ROOD, (1, 1))),
    "path": ("path", 10, ROOD[0], CORNERS, PATHS[0], path_paper(10, ROOD[0], CORNERS)),
    "off": ("off", 10, ROOD[2], PATHS[2], off_of(10, ROOD[2], PATHS[2]), off_paper(10, ROOD[2], PATHS[2])),
    "plane": ("plane", PATHS),
    "sides": ("sides", PATHS[0], BESIDE, sides_paper(PATHS[0], BESIDE)),
    "walks": ("walks", BOX, walks_of(BOX)),
    "comes": ("comes", 10, NARROW, sources(10, NARROW)),
}


class FindingsCase(unittest.TestCase):
    def holds(self, thing):
        self.tells(thing, True)

    def fails(self, *things):
        for thing in things:
            self.tells(thing, False)

    def tells(self, thing, told):
        before = deepcopy(thing)
        self.assertIs(finding_holds(thing), told, thing)
        self.assertIs(finding_holds(thing), told)
        self.assertEqual(repr(thing), repr(before))


class EachKindTest(FindingsCase):
    def test_each_holds(self):
        for word, thing in PAPERS.items():
            self.assertEqual(thing[0], word)
            self.holds(thing)

    def test_common(self):
        for one, other, spots in PAIRS:
            self.holds(("common", one, other, common_paper(one, other)))
            self.holds(("common", other, one, common_paper(other, one)))
        one, other, third = ROOD
        self.holds(("common", one, other, ("meets", 7, 14, 1, 2)))
        self.fails(
            ("common", one, other, ("meets", 1, 3, 1, 2)), ("common", one, other, ("apart", 1, 0, 1)),
            ("common", one, third, common_paper(one, other)), ("common", one, one[0], ("meets", 0, 1, 0, 1)),
            ("common", one, (one[0], one[0]), ("meets", 0, 1, 0, 1)), ("common", list(one), other, common_paper(one, other)),
            ("common", one, None, ("meets", 0, 1, 0, 1)), ("common", one, one, ("meets", True, 1, 1, 1)),
            ("common", one, ((0, True), (3, 3)), common_paper(one, ((0, 1), (3, 3)))), ("common", one, other),
            ("common", one, other, common_paper(one, other), None), ("common", 10, one, other, common_paper(one, other)),
        )
        self.holds(("common", one, one, ("meets", 1, 1, 1, 1)))

    def test_unwanted(self):
        for corner in ((1, 1), (-7, 9), (3, 3), (MILLION, -MILLION)):
            self.holds(("unwanted", 10, ROOD, corner, unwanted_paper(10, ROOD, corner)))
        self.holds(("unwanted", 10, (), (0, 0), ()))
        self.holds(("unwanted", 1, ROOD[:1], (1, 1), ()))
        paper = unwanted_paper(10, ROOD, (1, 1))
        for corner in CORNERS:
            self.assertIsNone(unwanted_paper(10, ROOD, corner))
            self.fails(("unwanted", 10, ROOD, corner, paper), ("unwanted", 10, ROOD, corner, None))
        self.fails(
            ("unwanted", 0, ROOD, (1, 1), paper), ("unwanted", -10, ROOD, (1, 1), paper), ("unwanted", True, ROOD, (1, 1), paper),
            ("unwanted", 10, list(ROOD), (1, 1), paper), ("unwanted", 10, ROOD[:2], (1, 1), paper),
            ("unwanted", 10, ROOD, (1,), paper), ("unwanted", 10, ROOD, (1, 1, 1), paper), ("unwanted", 10, ROOD, [1, 1], paper),
            ("unwanted", 10, ROOD, (True, 1), paper), ("unwanted", 10, ROOD, None, paper), ("unwanted", 10, ROOD, (1, 1), paper[:2]),
            ("unwanted", 10, ROOD + (((0, 0), (0, 0)),), (1, 1), paper), ("unwanted", 10, (), (1, 1), paper),
        )

    def test_thirteen_lines(self):
        lines = some_lines(13, 40, 1)
        for many, told in ((12, True), (13, False)):
            some = tuple(lines[:many])
            self.tells(("unwanted", 10, some, (99, 99), unwanted_paper(10, some, (99, 99))), told)
            self.tells(("comes", 10, some, sources(10, some)), told)
            self.tells(("comes", 10, some[:1] * many, (0,)), told)

    def test_path(self):
        for k, line in enumerate(ROOD):
            self.holds(("path", 10, line, CORNERS, PATHS[k], path_paper(10, line, CORNERS)))
        line, path, paper = ROOD[0], PATHS[0], path_paper(10, ROOD[0], CORNERS)
        self.holds(("path", 10, line, (), (), ()))
        self.holds(("path", 10, line, ((-3, 9),), (), path_paper(10, line, ((-3, 9),))))
        self.fails(
            ("path", 10, line, CORNERS, path[::-1], paper), ("path", 10, line, CORNERS, path[1:], paper),
            ("path", 10, line, CORNERS, path + path[:1], paper), ("path", 10, line, CORNERS, list(path), paper),
            ("path", 10, line, CORNERS, (), paper), ("path", 10, line, CORNERS, None, paper), ("path", 10, line, CORNERS, [], paper),
            ("path", 10, ROOD[1], CORNERS, path, paper), ("path", 9, ROOD[1], CORNERS, path, paper),
            ("path", 0, line, (), (), ()), ("path", True, line, (), (), ()), ("path", 10, line[0], (), (), ()),
            ("path", 10, line, [], (), ()), ("path", 10, line, (), [], ()), ("path", 10, line, (), (), []),
            ("path", 10, line, None, (), ()), ("path", 10, line, CORNERS, path, paper[1:]), ("path", 10, line, CORNERS, (True,), paper),
        )

    def test_corners_that_do_not_rise(self):
        line = ROOD[0]
        for corners in (CORNERS[::-1], CORNERS[:1] * 2, CORNERS[1:] + CORNERS[:1], ((0, 0), (0, 0), (2, 2)), ((2, 2), (0, 5))):
            met = tuple(sorted({corner for corner in corners if corner in PATHS[0]}))
            self.fails(("path", 10, line, corners, met, path_paper(10, line, corners)))
        # Nor where the line meets none of them.
        for corners in (((3, 9), (3, 9)), ((3, 9), (2, 9)), ((3, 9), (3, 8))):
            self.fails(("path", 10, line, corners, (), path_paper(10, line, corners)))
            self.holds(("path", 10, line, corners[:1], (), path_paper(10, line, corners[:1])))
        for corners in (((0,),), (0, 0), ((0, 0, 0),), ((False, 0),), ([0, 0],), ("00",), ((0, 0), None), (((0, 0),),)):
            self.fails(("path", 10, line, corners, (), ()), ("path", 10, line, corners, ((0, 0),), (("meets", 0, 1),)))

    def test_off(self):
        line, path = ROOD[2], PATHS[2]
        off, paper = off_of(10, line, path), off_paper(10, line, path)
        self.assertEqual(off, (3, 10))
        # At most this: a greater one holds, too, and need not be in lowest terms.
        for other in (off, (6, 20), (1, 2), (1, 1), (GREAT, 1)):
            self.holds(("off", 10, line, path, other, paper))
        self.holds(("off", 10, ((0, 0), (40, 40)), ((0, 0), (4, 4)), (0, 1), ((0, 1), (1, 1))))
        self.fails(
            ("off", 10, line, path, (2, 10), paper), ("off", 10, line, path, (0, 1), paper), ("off", 10, line, path, (-1, 2), paper),
            ("off", 10, line, path, (1, 0), paper), ("off", 10, line, path, (0, 0), paper), ("off", 10, line, path, (-3, -10), paper),
            ("off", 10, line, path, (1, True), paper), ("off", 10, line, path, [1, 2], paper), ("off", 10, line, path, (1, 2, 3), paper),
            ("off", 10, line, path, 1, paper), ("off", 10, line, path, None, paper), ("off", 0, line, path, (1, 2), paper),
            ("off", 10, line[::-1], path, off, paper), ("off", 10, line, path, off, paper[1:]), ("off", 10, line, path[1:], off, paper),
            ("off", 10, line, (), (1, 2), ()), ("off", 10, line, path + path[:1], (9, 1), paper + paper[:1]),
            ("off", 10, line, list(path), off, paper), ("off", 10, None, path, off, paper), ("off", 10, line, None, off, paper),
        )

    def test_plane(self):
        self.holds(("plane", ()))
        self.holds(("plane", (((0, 0),),)))
        for paths, walks, lands in PLANES:
            self.holds(("plane", paths[:12]))
        self.fails(
            ("plane", (((0, 0), (4, 4)), ((0, 4), (4, 0)))), ("plane", (((0, 0), (4, 0)), ((2, 0),))),
            ("plane", (((0, 0), (4, 0)), ((1, 0), (3, 0)))), ("plane", ((),)), ("plane", (((0, 0), (1, 1), (0, 0)),)),
            ("plane", list(PATHS)), ("plane", [PATHS]), ("plane", None), ("plane",), ("plane", PATHS, PATHS), ("plane", PATHS[0]),
            ("plane", (list(PATHS[0]),)), ("plane", (((0, 0), (1, True)),)), ("plane", (None,)), ("plane", 1), ("plane", "paths"),
        )

    def test_twelve_paths(self):
        rows = tuple(((0, k), (9, k)) for k in range(13))
        for many, told in ((12, True), (13, False)):
            self.tells(("plane", rows[:many]), told)
            self.tells(("plane", rows[:1] * many), told)
            self.tells(("walks", rows[:many], walks_of(rows[:many])), told)

    def test_six_hundred_corners(self):
        long = tuple((k, 0) for k in range(601))
        for many, told in ((600, True), (601, False)):
            path = long[:many]
            half, rest = path[:300], path[300:]
            line = ((0, 0), (many - 1, 0))
            paper = path_paper(1, line, path)
            self.tells(("plane", (path,)), told)
            self.tells(("plane", (half, rest)), told)
            self.tells(("walks", (half, rest), walks_of((half, rest))), told)
            self.tells(("sides", half, rest, sides_paper(half, rest)), told)
            self.tells(("off", 1, line, path, (0, 1), off_paper(1, line, path)), told)
            self.tells(("path", 1, line, path, path, paper), told)
        # The corners that a path goes by may be more.
        corners = tuple((k, 3) for k in range(800))
        self.holds(("path", 1, ((0, 0), (9, 0)), corners, (), path_paper(1, ((0, 0), (9, 0)), corners)))

    def test_sides(self):
        for one in PATHS:
            for other in PATHS:
                self.tells(("sides", one, other, sides_paper(one, other)), not passes(one, other))
        one, other = PATHS[0], PATHS[1]
        self.assertEqual(passes(one, other), ((1, 1),))
        paper = sides_paper(one, other)
        self.fails(("sides", one, other, ((1, 1, "left", "left"),)), ("sides", one, other, ()))
        apart = ((9, 9), (8, 8))
        self.holds(("sides", one, apart, ()))
        self.fails(
            ("sides", one, (), ()), ("sides", (), (), ()), ("sides", one, list(apart), ()), ("sides", one, None, ()),
            ("sides", one, apart, None), ("sides", one, apart, []), ("sides", one, apart, paper), ("sides", one, apart),
            ("sides", ((0, 0), (0, 0)), apart, ()), ("sides", ((0, True), (0, 0)), apart, ()),
        )

    def test_sides_of_paths_that_are_not_plane(self):
        one = ((0, 0), (4, 4))
        self.fails(("sides", one, ((0, 4), (4, 0)), ()), ("sides", one, ((2, 2), (9, 0)), ()), ("sides", one, ((1, 1), (3, 3)), ()))
        self.fails(("sides", ((0, 0), (4, 0), (2, 0)), ((9, 9),), ()))

    def test_walks(self):
        for paths, many, lands in PLANES:
            if len(paths) <= 12:
                walks = walks_of(paths)
                self.holds(("walks", paths, walks))
                self.fails(("walks", paths, walks + walks[:1] or ((),)), ("walks", paths, list(walks)))
                self.fails(*[("walks", paths, walks[:k] + walks[k + 1:]) for k in range(many)])
        self.fails(("walks", BOX, walks_of(square(0, 0, 9))), ("walks", list(BOX), walks_of(BOX)), ("walks", (), ((),)),
                   ("walks", None, ()), ("walks", BOX[0], ()), ("walks", ((),), ()), ("walks", BOX))

    def test_walks_of_paths_that_are_not_plane(self):
        for paths in ((((0, 0), (4, 4)), ((0, 4), (4, 0))), (((0, 0), (4, 0)), ((2, 0), (2, 3))), (((0, 0), (4, 0)), ((2, 0),))):
            self.fails(("walks", paths, walks_of(paths)))

    def test_comes(self):
        for lines, many in STRAIGHTS:
            for grain in (1, 10, 1000):
                told = sources(grain, lines)
                self.holds(("comes", grain, lines, told))
                self.fails(("comes", grain, lines, told + (0,)), ("comes", grain, lines, told[1:]), ("comes", grain, lines, list(told)))
        self.assertEqual(PAPERS["comes"][3], (0, 1, 1))
        for other in ((0, 1), (0, 1, 0), (0, 0, 1), (1, 1, 1), (0, 1, 2), (0, True, 1), (False, 1, 1), None, "011", (0, "1", 1)):
            self.fails(("comes", 10, NARROW, other))
        self.fails(("comes", 0, NARROW, (0, 1, 1)), ("comes", True, (), (0,)), ("comes", 1, None, (0,)), ("comes", 1, (None,), (0,)),
                   ("comes", 1, ((0, 0), (1, 1)), (0,)), ("comes", 1, [], (0,)), ("comes", 100, NARROW, (0, 1, 1)))
        self.holds(("comes", 1, (), (0,)))


class AnythingTest(FindingsCase):
    def test_other_words(self):
        others = (*PAPERS, "", "apart", "meets", None, True, 0, ())
        for word, thing in PAPERS.items():
            for other in (*others, word.upper(), word + " ", " " + word, (word,), [word], {word: 1}):
                if other != word:
                    self.fails((other, *thing[1:]))

    def test_parts_left_out_or_more(self):
        for thing in PAPERS.values():
            self.fails((), thing[1:], (thing,), [thing], list(thing), thing + (None,), thing + ((),), thing * 2)
            self.fails(*[thing[:k] for k in range(len(thing))], *[thing[:k] + thing[k + 1:] for k in range(len(thing))])
            self.fails(*[thing[:k] + thing[k:k + 1] + thing[k:] for k in range(len(thing))])

    def test_of_anything(self):
        self.fails(*anything())
        for thing in PAPERS.values():
            for other in anything():
                for k in range(len(thing)):
                    if not (k == len(thing) - 1 and other == thing[k]):
                        told = finding_holds(thing[:k] + (other,) + thing[k + 1:])
                        self.assertIs(type(told), bool)
            for other in spoilt(thing):
                self.assertIs(type(finding_holds(other)), bool)

    def test_spoilt_anywhere(self):
        some = {
            "common": ("common", ((0, 0), (2, 2)), ((0, 2), (2, 0)), ("meets", 1, 2, 1, 2)),
            "unwanted": ("unwanted", 1, (((0, 0), (3, 0)), ((0, 2), (3, 2))), (2, 1), (("apart", 0, 1, 1),)),
            "path": ("path", 1, ((0, 0), (2, 0)), ((0, 0), (2, 0)), ((0, 0), (2, 0)), (("meets", 0, 1), ("meets", 1, 1))),
            "off": ("off", 1, ((0, 0), (2, 0)), ((0, 0), (2, 0)), (0, 1), ((0, 1), (1, 1))),
            "plane": ("plane", (((0, 0), (2, 0)), ((2, 0), (2, 2)))),
            "sides": ("sides", ((0, 0), (2, 0)), ((2, 0), (2, 2)), ((1, 1, "end", "end"),)),
            "walks": ("walks", (((0, 0), (2, 0)),), (((0, 0), (2, 0)),)),
            "comes": ("comes", 1, (((0, 0), (2, 0)),), (0,)),
        }
        for word, thing in some.items():
            self.holds(thing)
            for other in spoilt_within(thing):
                told = finding_holds(other)
                self.assertIs(type(told), bool)
                if told:
                    # Another paper of the same, or of something else that is so.
                    self.assertEqual((other[0], len(other)), (word, len(thing)))
                    self.assertNotIn("[", repr(other))
                    self.assertNotIn("True", repr(other))
                    self.assertNotIn("None", repr(other))

    def test_nested_deep(self):
        for kind in ("tuple", "list", "dict"):
            for depth in (1, 2, 3, 5, 39, 40):
                self.fails(nested(depth, kind))
                for thing in PAPERS.values():
                    self.fails(*[thing[:k] + (nested(depth, kind),) + thing[k + 1:] for k in range(len(thing))])

    def test_great_numbers(self):
        g = 10 ** 36
        lines = tuple(tuple((x * g, y * g) for x, y in line) for line in ROOD)
        self.holds(("common", lines[0], lines[1], common_paper(*lines[:2])))
        self.holds(("unwanted", g, lines, (GREAT, 1), unwanted_paper(g, lines, (GREAT, 1))))
        corners, paths = drawn(g, lines)
        self.holds(("path", g, lines[0], corners, paths[0], path_paper(g, lines[0], corners)))
        self.holds(("off", g, lines[2], paths[2], (1, 2), off_paper(g, lines[2], paths[2])))
        great = tuple(tuple((i * g + 7, j * g - 5) for i, j in path) for path in BOX)
        self.holds(("plane", great))
        self.holds(("walks", great, walks_of(great)))
        some = long_lines(12, GREAT, 4)
        self.holds(("comes", 1, some, sources(1, some)))
        self.fails(("comes", GREAT, some, sources(1, some)))

    def test_great_findings(self):
        paths = long_grid(1, 0)[:10]
        self.holds(("plane", paths))
        self.holds(("walks", paths, walks_of(paths)))
        self.fails(("plane", long_grid(1, 0)))
        across = tuple(tuple((i, j) for j in range(0, 98, 2)) for i in range(0, 12))
        self.holds(("plane", across))
        self.fails(("plane", across[:11] + (((-1, 1), (12, 1)),)))
        self.holds(("comes", 1, grid_lines(6, MILLION), sources(1, grid_lines(6, MILLION))))

    def test_of_what_is_told(self):
        for lines in DRAWINGS + (tuple(some_lines(7, 30, 3)), square_lines(0, 0, 40)):
            for grain in GRAINS:
                corners, paths = drawn(grain, lines)
                self.holds(("plane", paths))
                self.holds(("plane", settled(corners, paths)))
                self.holds(("walks", paths, walks_of(paths)))
                self.holds(("comes", grain, lines, sources(grain, lines)))
                for line, path in zip(lines, paths):
                    off = off_of(grain, line, path)
                    self.holds(("path", grain, line, corners, path, path_paper(grain, line, corners)))
                    self.holds(("off", grain, line, path, off, off_paper(grain, line, path)))
                    self.assertLessEqual(Fraction(*off), Fraction(1, 2))
                    self.holds(("off", grain, line, path, (1, 2), off_paper(grain, line, path)))
                for walk in straight_walks(lines):
                    bent = bent_walk(grain, lines, walk)
                    if len(set(bent)) == len(bent):
                        self.holds(("plane", (bent,)))


if __name__ == "__main__":
    unittest.main()

"""[1], [2], [3]: each sentence of the promise, tried by the test itself over drawings of two to twelve lines."""

import unittest
from fractions import Fraction
from itertools import combinations
from random import Random

from bent_reference import (
    becoming_by, doings_by, drawn_by, least_wide, leavings_by, links_by, off_by, passes_by, round_by, trouble_by, unsettled_by,
)
from cornerlines.becoming import becoming
from cornerlines.bentwalks import bent_walk
from cornerlines.boards import Board
from cornerlines.crossing import common_paper
from cornerlines.findings import finding_holds
from cornerlines.lands import land_area, lands_of
from cornerlines.leaving import leavings
from cornerlines.offs import off_of, off_paper
from cornerlines.pathchecks import path_paper
from cornerlines.paths import drawn
from cornerlines.planes import trouble_of
from cornerlines.rounds import round_of
from cornerlines.settling import doings, settled, unsettled
from cornerlines.sides import passes, sides_paper
from cornerlines.sources import became, sources
from cornerlines.stands import Stand
from cornerlines.straights import straight_lands
from cornerlines.texts import read_lines, read_paths, show_lines, show_paths
from cornerlines.walks import walk_area, walks_of
from cornerlines.wants import corners_of, wants_of
from cornerlines.wantchecks import unwanted_paper
from land_reference import all_sources_by, bent_lands_by, straight_lands_by, walks_by
from land_samples import STRAIGHTS, grid_lines, long_lines, near_lines
from reference import common_by, corner_by, path_by, place_at, turned, wants_by
from samples import DRAWINGS, MILLION, some_lines
from test_leaving import less_neighbours

HALF = Fraction(1, 2)


def along_lines(many, far, seed):
    """Lines of which most lie along a few straight ones."""
    chance = Random(seed)
    lines = []
    while len(lines) < many:
        dx, dy = chance.choice(((3, 1), (3, 1), (1, -2), (1, 0)))
        k, l = chance.randint(-far, far) // 3, chance.randint(-far, far) // 3
        start = chance.randint(-1, 1)
        if k != l:
            lines.append(((k * dx, k * dy + start), (l * dx, l * dy + start)))
    return tuple(lines)


def moved(lines, x, y):
    """The lines elsewhere."""
    return tuple(tuple((u + x, v + y) for u, v in line) for line in lines)


def drawings():
    """(grain, lines), of two to twelve lines."""
    for lines in DRAWINGS[2:]:
        yield 10, lines
    for seed in range(5):
        for grain, far in ((1, 3), (2, 7), (7, 25), (1000, 4000)):
            yield grain, tuple(some_lines(2 + seed, far, seed))
            yield grain, near_lines(3 + seed, far, seed + 50)
            yield grain, along_lines(2 + 2 * seed, far, seed)
        yield 10, moved(near_lines(4 + seed, 30, seed), MILLION - 90, 90 - MILLION)
        yield 100, long_lines(3 + seed, 450, seed)
    for lines, many in STRAIGHTS[3:10]:
        yield 7, lines
    for grain, far in ((1, 4), (10, 60), (1000, MILLION), (1, MILLION)):
        yield grain, tuple(some_lines(12, far, grain))
    for grain, far in ((3, 12), (1000, 3000)):
        yield grain, long_lines(12, far, grain)
        yield grain, near_lines(12, far, grain)
        yield grain, along_lines(12, far, grain)
    yield 1000, grid_lines(6, 7000)


EACH = tuple(drawings())
SMALL = tuple((grain, lines) for grain, lines in EACH if len(lines) <= 7)


class PromiseTest(unittest.TestCase):
    def test_the_drawings(self):
        self.assertGreater(len(EACH), 80)
        many = {len(lines) for grain, lines in EACH}
        self.assertEqual((min(many), max(many)), (2, 12))
        self.assertGreater(len(SMALL), 60)

    def test_the_corners(self):
        """Just those nearest to an end or a crossing."""
        for grain, lines in EACH:
            corners = {corner_by(grain, *point) for line in lines for point in line}
            for one, other in combinations(lines, 2):
                places = common_by(one, other)
                if len(places) == 1:
                    corners.add(corner_by(grain, *places[0]))
            self.assertEqual(drawn(grain, lines)[0], tuple(sorted(corners)))
            self.assertEqual(corners_of(grain, lines), tuple(sorted(corners)))
            self.assertEqual(wants_of(grain, lines), wants_by(grain, lines))

    def test_the_paths(self):
        """Just through those whose cell the line meets, in order, nowhere farther off than half a cell."""
        for grain, lines in EACH:
            corners, paths = drawn(grain, lines)
            for line, path in zip(lines, paths):
                self.assertEqual(path, path_by(grain, line, corners))
                self.assertEqual((path[0], path[-1]), tuple(corner_by(grain, *point) for point in line))
                self.assertLessEqual(off_by(grain, line, path), HALF)
                self.assertEqual(Fraction(*off_of(grain, line, path)), off_by(grain, line, path))

    def test_the_lines_from_their_paths(self):
        for grain, lines in SMALL:
            for line, path in zip(lines, drawn(grain, lines)[1]):
                links = list(zip(path, path[1:]))
                for k in range(14):
                    x, y = place_at(line, Fraction(k, 13))
                    place = Fraction(x) / grain, Fraction(y) / grain
                    offs = [least_wide(1, link, place) for link in links]
                    offs += [max(abs(place[0] - path[0][0]), abs(place[1] - path[0][1]))] if not links else []
                    self.assertLessEqual(min(offs), HALF)

    def test_the_links(self):
        """No two have more in common than a corner at which both end, and none goes over a corner."""
        for grain, lines in EACH:
            paths = drawn(grain, lines)[1]
            self.assertIsNone(trouble_of(paths))
            self.assertIsNone(trouble_by(paths))

    def test_the_passes(self):
        """At most one, and only where the lines cross inside both."""
        for grain, lines in EACH:
            paths = drawn(grain, lines)[1]
            for (line, path), (other, other_path) in combinations(list(zip(lines, paths)), 2):
                told = passes(path, other_path)
                self.assertEqual(told, passes_by(path, other_path))
                places = common_by(line, other)
                inside = len(places) == 1 and tuple(places[0]) not in line + other
                self.assertLessEqual(len(told), int(inside))

    def test_round_each_corner(self):
        """The paths leave in the order of their lines."""
        for grain, lines in SMALL:
            corners, paths = drawn(grain, lines)
            for corner in corners:
                told = leavings(grain, lines, corner)
                self.assertEqual(told, leavings_by(grain, lines, corner))
                order = round_by(paths, corner)
                self.assertEqual(round_of(paths, corner), order)
                self.assertIn(less_neighbours([row[2] for row in told]), [order[k:] + order[:k] for k in range(len(order) or 1)])

    def test_done_again(self):
        """To an end, where no link meets a cell but those of its ends, still plane, with no pass more."""
        for grain, lines in EACH:
            corners, paths = drawn(grain, lines)
            done = doings(corners, paths)
            if len(lines) <= 7:
                self.assertEqual(done, doings_by(corners, paths))
                self.assertIsNone(unsettled_by(corners, settled(corners, paths)))
            last = settled(corners, paths)
            self.assertEqual(last, (paths, *done)[-1])
            self.assertIsNone(unsettled(corners, last))
            self.assertIsNone(trouble_by(last))
            for k, l in combinations(range(len(lines)), 2):
                self.assertLessEqual(len(passes_by(last[k], last[l])), len(passes_by(paths[k], paths[l])))
            for n, some in enumerate(done, 1):
                for line, path in zip(lines, some):
                    self.assertLessEqual(off_by(grain, line, path), Fraction(n + 1, 2))

    def test_what_becomes_of_links(self):
        for grain, lines in SMALL:
            corners, paths = drawn(grain, lines)
            for path in paths:
                for half in zip(path, path[1:]):
                    self.assertEqual(becoming(corners, *half), becoming_by(corners, *half))

    def test_the_lands(self):
        """Each bent one comes of one straight one, and what comes of one has just the area of what its border becomes."""
        for grain, lines in EACH:
            lands, back = lands_of(drawn(grain, lines)[1]), became(grain, lines)
            for (border, rims), numbers in list(zip(straight_lands(lines), back))[1:]:
                bent = sum(walk_area(bent_walk(grain, lines, walk)) for walk in (border, *rims))
                self.assertEqual(bent, sum(land_area(lands[number]) for number in numbers))
                self.assertEqual(bent == 0, numbers == ())
            self.assertEqual(sorted(number for numbers in back for number in numbers), list(range(len(lands))))

    def test_the_sources(self):
        for grain, lines in SMALL:
            self.assertEqual([{number} for number in sources(grain, lines)], all_sources_by(grain, lines))
            self.assertEqual(lands_of(drawn(grain, lines)[1]), bent_lands_by(drawn_by(grain, lines)[1]))
            self.assertEqual(straight_lands(lines), straight_lands_by(lines))

    def test_while_lines_come_and_go(self):
        """All is as made at once of those that stand."""
        for grain, lines in EACH:
            chance = Random(len(lines))
            board = Board(grain)
            numbers = {}
            for line in lines:
                numbers[board.put(line)] = line
                if chance.random() < 0.4:
                    away = chance.choice(list(numbers))
                    board.out(away)
                    del numbers[away]
                elif chance.random() < 0.3:
                    number = chance.choice(list(numbers))
                    numbers[number] = turned(numbers[number])
                    board.turn(number, numbers[number])
                stand = tuple(numbers.values())
                corners, paths = drawn(grain, stand)
                self.assertEqual(board.lines(), tuple(numbers.items()))
                self.assertEqual(board.corners(), corners)
                self.assertEqual(tuple(board.path(number) for number in numbers), paths)

    def test_while_points_come_and_go(self):
        for grain, lines in SMALL:
            points = sorted({point for line in lines for point in line})
            names = {point: "p" + "abcdefghijklmnop"[k] for k, point in enumerate(points)}
            stand = Stand(grain)
            for point in points:
                stand.put(names[point], (point[0] - 1, point[1] + 2))
            for k, (a, b) in enumerate(lines):
                stand.join("abcdefg"[k], names[a], names[b])
            self.assertEqual(stand.drawing(), drawn(grain, moved(lines, -1, 2)))
            for point in points:
                stand.move(names[point], (point[0] + 3 * MILLION, point[1]))
            for point in points:
                stand.move(names[point], point)
            self.assertEqual(stand.drawing(), drawn(grain, lines))
            stand.cut("a")
            self.assertEqual(stand.drawing(), drawn(grain, lines[1:]))
            stand.back(stand.deeds() - 1)
            self.assertEqual(stand.drawing(), drawn(grain, lines))

    def test_told_again(self):
        """The same asked of the same; what was told may be handed in again."""
        for grain, lines in EACH:
            corners, paths = drawn(grain, lines)
            self.assertEqual(read_lines(show_lines(grain, lines)), (grain, lines))
            self.assertEqual(read_paths(show_paths(paths)), paths)
            last = settled(corners, paths)
            self.assertEqual(read_paths(show_paths(last)), last)
            self.assertEqual(repr(drawn(grain, lines)), repr((corners, paths)))


def others_of(thing, chance, many):
    """Things that are a little otherwise, so many of them, each with one or two numbers changed, or parts of others."""
    for step in range(many):
        told = thing
        for turn in range(chance.choice((1, 1, 2))):
            told = changed_in(told, chance)
        yield told


def changed_in(thing, chance):
    """The thing with one number within it changed, or two parts exchanged, or one left out."""
    if isinstance(thing, int):
        return thing + chance.choice((-2, -1, -1, 1, 1, 2, 7, -thing))
    if not isinstance(thing, tuple) or not thing:
        return thing
    k = chance.randrange(len(thing))
    deed = chance.random()
    if deed < 0.06:
        return thing[:k] + thing[k + 1:]
    if deed < 0.12:
        return thing[:k] + thing[k:k + 1] + thing[k:]
    if deed < 0.18:
        l = chance.randrange(len(thing))
        parts = list(thing)
        parts[k], parts[l] = parts[l], parts[k]
        return tuple(parts)
    return thing[:k] + (changed_in(thing[k], chance),) + thing[k + 1:]


class PapersTest(unittest.TestCase):
    """Whatever paper is let by, whoever wrote it, what it says is so."""

    def is_so(self, word, *parts):
        """Whether what the finding says is so, told slowly."""
        if word == "common":
            one, other, paper = parts
            return (common_by(one, other) == []) == (paper[0] == "apart")
        if word == "unwanted":
            grain, lines, corner, paper = parts
            return corner not in [row[0] for row in wants_by(grain, lines)]
        if word == "path":
            grain, line, corners, path, paper = parts
            return path == path_by(grain, line, corners)
        if word == "off":
            grain, line, path, off, paper = parts
            return off_by(grain, line, path) <= Fraction(*off)
        if word == "plane":
            return trouble_by(parts[0]) is None
        if word == "sides":
            one, other, paper = parts
            return trouble_by((one, other)) is None and passes_by(one, other) == ()
        if word == "walks":
            paths, walks = parts
            return trouble_by(paths) is None and walks == walks_by(links_by(paths))
        grain, lines, told = parts
        return [{number} for number in told] == all_sources_by(grain, lines)

    def findings(self, grain, lines):
        corners, paths = drawn(grain, lines)
        for one, other in combinations(lines[:4], 2):
            yield "common", one, other, common_paper(one, other)
        i, j = corners[0]
        for corner in ((i + 1, j), (i, j - 1), *corners[:2]):
            yield "unwanted", grain, lines, corner, unwanted_paper(grain, lines, corner)
        for line, path in list(zip(lines, paths))[:3]:
            yield "path", grain, line, corners, path, path_paper(grain, line, corners)
            yield "off", grain, line, path, off_of(grain, line, path), off_paper(grain, line, path)
        yield "plane", paths
        for one, other in combinations(paths[:4], 2):
            yield "sides", one, other, sides_paper(one, other)
        yield "walks", paths, walks_of(paths)
        yield "comes", grain, lines, sources(grain, lines)

    def test_of_drawings(self):
        held = {}
        for number, (grain, lines) in enumerate(SMALL):
            chance = Random(number)
            for finding in self.findings(grain, lines):
                for other in (finding, *others_of(finding, chance, 12)):
                    told = finding_holds(other)
                    self.assertIs(type(told), bool)
                    if told:
                        self.assertTrue(self.is_so(*other), other)
                        held[other[0], other == finding] = held.get((other[0], other == finding), 0) + 1
        # Of each kind many hold, and of changed ones some.
        self.assertEqual(len({word for word, same in held}), 8)
        self.assertTrue(all(many > 5 for many in held.values()), held)

    def test_what_is_so_holds_by_its_paper(self):
        for grain, lines in SMALL:
            for finding in self.findings(grain, lines):
                refused = finding[0] == "unwanted" and finding[-1] is None
                refused = refused or finding[0] == "sides" and passes_by(*finding[1:3]) != ()
                self.assertIs(finding_holds(finding), not refused)


if __name__ == "__main__":
    unittest.main()

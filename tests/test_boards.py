"""[21]: lines that come and go by numbers that stay theirs; of [3] what speaks of that."""

import unittest
from copy import deepcopy
from random import Random

from cornerlines.boards import Board
from cornerlines.errors import NoNumber, TooMany
from cornerlines.paths import drawn
from cornerlines.wants import wants_of
from reference import path_by, turned, wants_by
from samples import DRAWINGS, GRAINS, MILLION, some_lines
from things import anything, is_plain

ROOD = (((0, 0), (40, 40)), ((0, 40), (40, 0)), ((0, 23), (40, 23)))


def all_of(board):
    """All that a board tells."""
    numbers = [number for number, line in board.lines()]
    paths = tuple(board.path(number) for number in numbers)
    return board.lines(), board.corners(), board.wants(), paths, board.came(), board.went(), board.moved()


def by_numbers(wants, numbers):
    """The wants, rising, with the lines' numbers for their places."""
    told = []
    for word, k, other in wants:
        told.append((word, numbers[k], numbers[other]) if word == "cross" else (word, numbers[k], other))
    return tuple(sorted(told))


class Shadow:
    """What a board must tell, told at once of the lines that stand; by the program's own drawing, or slowly."""

    def __init__(self, test, grain, slowly=False):
        self.test, self.grain, self.slowly = test, grain, slowly
        self.board, self.rows, self.given = Board(grain), {}, 0
        self.now = self.ahead = self.sheet()
        self.check()

    def sheet(self):
        """{corner: wants}, {number: path}."""
        numbers, lines = list(self.rows), tuple(self.rows.values())
        if self.slowly:
            wants = wants_by(self.grain, lines)
            corners = tuple(corner for corner, part in wants)
            paths = tuple(path_by(self.grain, line, corners) for line in lines)
        else:
            wants, (corners, paths) = wants_of(self.grain, lines), drawn(self.grain, lines)
        return {corner: by_numbers(part, numbers) for corner, part in wants}, dict(zip(numbers, paths))

    def did(self):
        self.ahead, self.now = self.now, self.sheet()
        self.check()

    def check(self):
        told = all_of(self.board)
        self.test.assertTrue(is_plain(told))
        self.test.assertEqual(repr(told), repr(all_of(self.board)))
        (before, paths_before), (now, paths_now) = self.ahead, self.now
        moved = tuple(k for k, path in paths_now.items() if k in paths_before and paths_before[k] != path)
        self.test.assertEqual(told, (
            tuple(self.rows.items()), tuple(sorted(now)), tuple(sorted(now.items())), tuple(paths_now.values()),
            tuple(sorted(set(now) - set(before))), tuple(sorted(set(before) - set(now))), moved,
        ))

    def put(self, line):
        self.test.assertEqual(self.board.put(line), self.given)
        self.rows[self.given] = line
        self.given += 1
        self.did()

    def out(self, number):
        self.test.assertIsNone(self.board.out(number))
        del self.rows[number]
        self.did()

    def turn(self, number, line):
        self.test.assertIsNone(self.board.turn(number, line))
        self.rows[number] = line
        self.did()

    def refuse(self, error, call, *things):
        before = deepcopy(things)
        with self.test.assertRaises(error) as caught:
            call(*things)
        self.test.assertIs(type(caught.exception), error)
        self.test.assertEqual(repr(things), repr(before))
        self.check()


class DeedsTest(unittest.TestCase):
    def test_nothing_yet(self):
        self.assertEqual(all_of(Board(10)), ((),) * 7)

    def test_one_after_another(self):
        board = Board(10)
        self.assertEqual([board.put(line) for line in ROOD], [0, 1, 2])
        self.assertEqual(board.lines(), tuple(enumerate(ROOD)))
        self.assertEqual(board.corners(), ((0, 0), (0, 2), (0, 4), (2, 2), (4, 0), (4, 2), (4, 4)))
        self.assertEqual(board.came(), ((0, 2), (4, 2)))
        self.assertEqual((board.went(), board.moved()), ((), ()))
        self.assertEqual(board.path(2), ((0, 2), (2, 2), (4, 2)))
        self.assertIsNone(board.out(0))
        self.assertEqual(board.lines(), ((1, ROOD[1]), (2, ROOD[2])))
        # By the numbers, not by the places; the crossing of the two that stay is at the same corner.
        self.assertEqual(dict(board.wants())[2, 2], (("cross", 1, 2),))
        self.assertEqual(dict(board.wants())[0, 4], (("end", 1, 0),))
        self.assertEqual((board.came(), board.went(), board.moved()), ((), ((0, 0), (4, 4)), ()))
        self.assertIsNone(board.out(2))
        self.assertEqual((board.came(), board.went(), board.moved()), ((), ((0, 2), (2, 2), (4, 2)), (1,)))
        self.assertEqual(board.path(1), ((0, 4), (4, 0)))
        self.assertEqual(board.put(ROOD[0]), 3)
        self.assertEqual(board.moved(), (1,))
        self.assertEqual(dict(board.wants())[2, 2], (("cross", 1, 3),))

    def test_of_the_last_deed_alone(self):
        board = Board(10)
        board.put(ROOD[0])
        board.put(ROOD[1])
        self.assertEqual(board.came(), ((0, 4), (2, 2), (4, 0)))
        self.assertEqual(board.moved(), (0,))
        board.put(((90, 90), (90, 80)))
        self.assertEqual((board.came(), board.went(), board.moved()), (((9, 8), (9, 9)), (), ()))

    def test_a_corner_that_two_things_want(self):
        shadow = Shadow(self, 10, True)
        shadow.put(((0, 0), (40, 0)))
        shadow.put(((3, 4), (3, 40)))
        self.assertEqual(dict(shadow.board.wants())[0, 0], (("end", 0, 0), ("end", 1, 0)))
        shadow.out(0)
        self.assertIn((0, 0), shadow.board.corners())
        self.assertNotIn((0, 0), shadow.board.went())
        shadow.put(((0, 0), (-40, 0)))
        self.assertNotIn((0, 0), shadow.board.came())
        shadow.out(1)
        self.assertIn((0, 0), shadow.board.corners())
        shadow.out(2)
        self.assertEqual(shadow.board.corners(), ())
        self.assertEqual(shadow.board.went(), ((-4, 0), (0, 0)))

    def test_alike_lines(self):
        shadow = Shadow(self, 10, True)
        line = ((0, 0), (57, 33))
        for other in (line, line, turned(line), line):
            shadow.put(other)
        self.assertEqual(shadow.board.moved(), ())
        shadow.out(1)
        self.assertEqual((shadow.board.came(), shadow.board.went()), ((), ()))
        shadow.out(0)
        shadow.out(3)
        self.assertEqual(shadow.board.lines(), ((2, turned(line)),))
        shadow.out(2)
        self.assertEqual(shadow.board.went(), ((0, 0), (6, 3)))

    def test_turned_lines(self):
        shadow = Shadow(self, 10, True)
        for line in ROOD:
            shadow.put(line)
        shadow.turn(2, turned(ROOD[2]))
        self.assertEqual((shadow.board.came(), shadow.board.went(), shadow.board.moved()), ((), (), (2,)))
        shadow.turn(2, turned(ROOD[2]))
        self.assertEqual(shadow.board.moved(), ())
        shadow.turn(2, ((0, 60), (40, 60)))
        self.assertEqual(shadow.board.moved(), (2,))
        shadow.turn(0, ((0, 60), (40, 61)))
        self.assertEqual(shadow.board.moved(), (0, 1))
        self.assertEqual([number for number, line in shadow.board.lines()], [0, 1, 2])
        # Another line with the very same path has not moved.
        shadow.turn(0, ((1, 60), (40, 61)))
        self.assertEqual(shadow.board.moved(), ())

    def test_a_line_put_or_taken_out_has_not_moved(self):
        board = Board(10)
        board.put(ROOD[0])
        self.assertEqual(board.moved(), ())
        board.out(0)
        self.assertEqual(board.moved(), ())
        board.put(ROOD[0])
        self.assertEqual(board.moved(), ())
        self.assertEqual(board.lines(), ((1, ROOD[0]),))

    def test_numbers_go_on(self):
        shadow = Shadow(self, 10)
        for k in range(5):
            shadow.put(ROOD[k % 3])
            shadow.out(k)
            shadow.refuse(NoNumber, shadow.board.out, k)
        self.assertEqual(all_of(shadow.board)[:5], ((),) * 5)
        shadow.put(ROOD[0])
        self.assertEqual(shadow.board.lines(), ((5, ROOD[0]),))

    def test_all_out_and_put_again(self):
        shadow = Shadow(self, 2)
        lines = some_lines(12, 9, 1)
        for turn in range(2):
            for line in lines:
                shadow.put(line)
            for number in sorted(shadow.rows, key=lambda number: number * 5 % 12):
                shadow.out(number)
            self.assertEqual(all_of(shadow.board)[:5], ((),) * 5)
            self.assertNotEqual(shadow.board.went(), ())

    def test_many_deeds(self):
        for seed, grain, far in ((1, 10, 40), (2, 1, 3), (3, 3, 12), (4, 1000, MILLION), (5, 2, 6)):
            chance = Random(seed)
            lines = some_lines(90, far, seed)
            shadow = Shadow(self, grain)
            for k in range(60):
                deed = chance.choice(("put", "put", "out", "turn"))
                if deed == "put" and len(shadow.rows) < 12 or not shadow.rows:
                    shadow.put(lines[k] if chance.random() < 0.7 else lines[k // 3])
                elif deed == "out":
                    shadow.out(chance.choice(list(shadow.rows)))
                else:
                    number = chance.choice(list(shadow.rows))
                    other = chance.choice((lines[k], turned(shadow.rows[number]), (shadow.rows[number][0], lines[k][1])))
                    if other[0] != other[1]:
                        shadow.turn(number, other)

    def test_told_slowly(self):
        for seed in range(3):
            chance = Random(seed)
            shadow = Shadow(self, 3, True)
            for line in some_lines(16, 8, seed):
                if len(shadow.rows) == 6:
                    shadow.out(chance.choice(list(shadow.rows)))
                shadow.put(line)

    def test_the_drawings(self):
        for lines in DRAWINGS:
            for grain in GRAINS:
                shadow = Shadow(self, grain)
                for line in lines:
                    shadow.put(line)
                self.assertEqual(drawn(grain, lines)[0], shadow.board.corners())

    def test_in_any_order(self):
        for seed in range(6):
            lines = some_lines(8, 12, seed)
            told = drawn(4, tuple(lines))
            for k in range(4):
                turn = Random(k).sample(range(8), 8)
                board = Board(4)
                # One that goes again leaves nothing behind.
                away = board.put(((-40, 40), (40, -41)))
                numbers = [board.put(lines[place]) for place in turn]
                board.out(away)
                self.assertEqual(board.corners(), told[0])
                for place, number in zip(turn, numbers):
                    self.assertEqual(board.path(number), told[1][place])

    def test_two_boards_by_turns(self):
        one, other = Shadow(self, 10), Shadow(self, 3)
        for k, line in enumerate(some_lines(10, 30, 2)):
            (one, other)[k % 2].put(line)
            (other, one)[k % 2].check()
        one.out(0)
        other.check()
        other.turn(0, ((7, 7), (8, 8)))
        one.check()
        self.assertEqual([number for number, line in other.board.lines()], [0, 1, 2, 3, 4])


class RefusalsTest(unittest.TestCase):
    def standing(self):
        shadow = Shadow(self, 10)
        for line in ROOD + (((5, 5), (50, 8)),):
            shadow.put(line)
        shadow.out(1)
        return shadow

    def refuses(self, shadow, number):
        shadow.refuse(NoNumber, shadow.board.out, number)
        shadow.refuse(NoNumber, shadow.board.turn, number, ROOD[1])
        shadow.refuse(NoNumber, shadow.board.path, number)

    def test_no_such_number(self):
        shadow = self.standing()
        for number in (1, 4, 5, -1, -2, 12, 10 ** 39):
            self.refuses(shadow, number)

    def test_no_number_at_all(self):
        shadow = self.standing()
        for thing in anything():
            if thing != 0 or isinstance(thing, bool):
                self.refuses(shadow, thing)
        for thing in ("0", (0,), [0], {0: 0}, (0, 2), "2", {2: (0, 0)}, (2, None)):
            self.refuses(shadow, thing)

    def test_truths_are_no_numbers(self):
        shadow = Shadow(self, 10)
        shadow.put(ROOD[0])
        shadow.put(ROOD[1])
        self.refuses(shadow, True)
        self.refuses(shadow, False)

    def test_on_an_empty_board(self):
        shadow = Shadow(self, 1)
        for number in (0, 1, -1, None):
            self.refuses(shadow, number)

    def test_a_thirteenth(self):
        lines = some_lines(14, 40, 3)
        shadow = Shadow(self, 10)
        for line in lines[:12]:
            shadow.put(line)
        shadow.refuse(TooMany, shadow.board.put, lines[12])
        shadow.refuse(TooMany, shadow.board.put, lines[0])
        shadow.turn(4, lines[12])
        shadow.refuse(TooMany, shadow.board.put, lines[13])
        shadow.out(7)
        # The refused ones took no number.
        shadow.put(lines[13])
        self.assertIn(12, shadow.rows)
        shadow.refuse(TooMany, shadow.board.put, lines[12])
        shadow.out(12)
        shadow.put(lines[7])

    def test_what_is_handed_in_stays(self):
        board = Board(10)
        line, other = ((0, 0), (40, 40)), ((0, 1), (9, 40))
        before = deepcopy((line, other))
        board.put(line)
        board.turn(0, other)
        board.put(line)
        board.out(0)
        self.assertEqual((line, other), before)


if __name__ == "__main__":
    unittest.main()

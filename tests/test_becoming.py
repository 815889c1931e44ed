"""[18]: a paper of what becomes of a link, and whether something is it."""

import unittest

from bent_reference import becoming_by, bent_by, is_just_by
from bent_samples import chain
from cornerlines.becomechecks import becoming_holds
from cornerlines.becoming import becoming
from cornerlines.links import links_of
from cornerlines.paths import drawn
from cornerlines.settling import doings, settled
from samples import DRAWINGS, MILLION, corners_about, some_lines
from things import GREAT, anything, keeps, nested, spoilt, spoilt_within

STAYS = ("stays",)
CORNERS = ((0, 0), (1, 0), (2, 0), (3, 1))
LINK = ((0, 0), (3, 1))
PAPER = ("bends", ((0, 0), (1, 0), (3, 1)), (STAYS, ("bends", ((1, 0), (2, 0), (3, 1)), (STAYS, STAYS))))
BACK = ("bends", ((3, 1), (1, 0), (0, 0)), (("bends", ((3, 1), (2, 0), (1, 0)), (STAYS, STAYS)), STAYS))


def settled_by(paper, one, other):
    """The path to which the paper says that the link settles."""
    if paper[0] == "stays":
        return one, other
    told = (one,)
    for k, part in enumerate(paper[2]):
        told += settled_by(part, paper[1][k], paper[1][k + 1])[1:]
    return told


def depth_of(paper):
    """How many times the paper says that it is done again."""
    return 0 if paper[0] == "stays" else 1 + max(depth_of(part) for part in paper[2])


class BecomingTest(unittest.TestCase):
    def tells(self, told, corners, one, other):
        self.assertEqual(keeps(self, becoming, corners, one, other), told)
        self.check(corners, one, other)

    def check(self, corners, one, other):
        paper = becoming(corners, one, other)
        self.assertEqual(paper, becoming_by(corners, one, other))
        self.assertEqual(becoming(corners, other, one), becoming_by(corners, other, one))
        told = doings(corners, ((one, other),))
        self.assertEqual(depth_of(paper), len(told))
        self.assertEqual(settled_by(paper, one, other), settled(corners, ((one, other),))[0])
        self.assertIs(becoming_holds(corners, one, other, paper), True)
        self.assertIs(becoming_holds(corners, other, one, paper), paper == STAYS)
        return paper

    def test_a_link_that_stays(self):
        self.tells(STAYS, ((0, 0), (1, 0)), (0, 0), (1, 0))
        self.tells(STAYS, CORNERS, (3, 1), (2, 0))
        self.tells(STAYS, ((0, 0), (0, 1), (1, 0), (1, 1)), (0, 0), (1, 1))
        self.tells(STAYS, ((-1, 0), (0, 0), (3, 0), (4, 0)), (3, 0), (0, 0))

    def test_a_link_that_bends(self):
        self.tells(PAPER, CORNERS, *LINK)
        self.tells(BACK, CORNERS, LINK[1], LINK[0])
        row = ((0, 0), (1, 0), (2, 0), (4, 0))
        self.tells(("bends", row, (STAYS,) * 3), row, (0, 0), (4, 0))
        self.tells(("bends", row[::-1], (STAYS,) * 3), row, (4, 0), (0, 0))

    def test_the_path_in_the_way_it_is_gone(self):
        corners = corners_about(3)
        for one in corners[::4]:
            for other in corners[::5]:
                if one != other:
                    paper = self.check(corners, one, other)
                    if paper != STAYS:
                        self.assertEqual(paper[1], bent_by(corners, one, other))
                        self.assertEqual((paper[1][0], paper[1][-1]), (one, other))
                        self.assertEqual(len(paper[2]), len(paper[1]) - 1)

    def test_links_of_drawings(self):
        cases = [(grain, lines) for lines in DRAWINGS for grain in (1, 2, 10)]
        cases += [(grain, tuple(some_lines(12, far, 5))) for grain, far in ((1, 9), (2, 9), (10, 60), (1000, MILLION))]
        for grain, lines in cases:
            corners, paths = drawn(grain, lines)
            for one, other in links_of(paths):
                self.check(corners, one, other)

    def test_chains(self):
        for many in (1, 5, 20):
            corners, ((one, other),) = chain(many)
            paper = self.check(corners, one, other)
            self.assertEqual(depth_of(paper), many)
        corners, ((one, other),) = chain(98)
        paper = becoming(corners, one, other)
        self.assertEqual((depth_of(paper), len(settled_by(paper, one, other))), (98, 100))
        self.assertIs(becoming_holds(corners, one, other, paper), True)
        self.assertIs(becoming_holds(corners, other, one, paper), False)
        self.assertIs(becoming_holds(corners[:-2] + corners[-1:], one, other, paper), False)

    def test_at_the_bounds(self):
        low, high = (-MILLION, -MILLION), (MILLION, MILLION)
        corners = (low, (0, 0), (0, 1), high)
        self.tells(("bends", (low, (0, 0), high), (STAYS, STAYS)), corners, low, high)
        self.tells(("bends", (high, (0, 0), low), (STAYS, STAYS)), corners, high, low)


class BecomingHoldsTest(unittest.TestCase):
    def tells(self, told, corners, one, other, thing):
        self.assertIs(keeps(self, becoming_holds, corners, one, other, thing), told, thing)

    def test_just_the_paper(self):
        self.tells(True, CORNERS, *LINK, PAPER)
        self.tells(True, CORNERS, *LINK[::-1], BACK)
        self.tells(True, CORNERS, (0, 0), (1, 0), STAYS)

    def test_of_the_link_gone_back(self):
        self.tells(False, CORNERS, *LINK, BACK)
        self.tells(False, CORNERS, *LINK[::-1], PAPER)
        row = ((0, 0), (2, 0), (4, 0))
        self.tells(False, row, (4, 0), (0, 0), ("bends", row, (STAYS, STAYS)))

    def test_of_other_links_and_corners(self):
        self.tells(False, CORNERS, *LINK, STAYS)
        self.tells(False, CORNERS, *LINK, PAPER[2][1])
        self.tells(False, CORNERS, (1, 0), (3, 1), PAPER)
        self.tells(False, CORNERS, (0, 0), (2, 0), PAPER)
        self.tells(False, CORNERS[:2] + CORNERS[3:], *LINK, PAPER)
        self.tells(False, CORNERS[:1] + CORNERS[2:], *LINK, PAPER)
        self.tells(False, CORNERS + ((3, 0),), (0, 0), (3, 0), PAPER)
        self.tells(False, tuple(sorted(CORNERS + ((2, 1),))), *LINK, PAPER)
        self.tells(True, tuple(sorted(CORNERS + ((0, 1), (4, 1), (3, 0)))), *LINK, PAPER)
        told = [(one, other) for one in CORNERS for other in CORNERS if one != other]
        for half in told:
            for other in told:
                paper = becoming(CORNERS, *other)
                self.tells(paper == becoming_by(CORNERS, *half), CORNERS, *half, paper)

    def test_papers_that_stop_early_or_go_on(self):
        self.tells(False, CORNERS, *LINK, ("bends", PAPER[1], (STAYS, STAYS)))
        self.tells(False, CORNERS, *LINK, ("bends", ((0, 0), (1, 0), (2, 0), (3, 1)), (STAYS, STAYS, STAYS)))
        self.tells(False, CORNERS, *LINK, ("bends", PAPER[1], (("bends", ((0, 0), (1, 0)), (STAYS,)), PAPER[2][1])))
        self.tells(False, CORNERS, (0, 0), (1, 0), ("bends", ((0, 0), (1, 0)), (STAYS,)))
        self.tells(False, CORNERS, (0, 0), (1, 0), ("stays", ((0, 0), (1, 0)), ()))

    def test_anything_otherwise_at_any_depth(self):
        for thing in (*spoilt_within(PAPER), *spoilt(PAPER)):
            self.tells(False, CORNERS, *LINK, thing)
        for thing in (*spoilt_within(STAYS), *spoilt(STAYS)):
            self.tells(False, CORNERS, (0, 0), (1, 0), thing)
        corners, (link,) = chain(20)
        paper = becoming(corners, *link)
        for k, thing in enumerate(spoilt_within(paper)):
            if k % 7 == 0:
                self.assertIs(becoming_holds(corners, *link, thing), False)
                self.assertFalse(is_just_by(thing, paper))

    def test_truths_for_numbers(self):
        for path in (((0, 0), (1, 0), (3, True)), ((False, 0), (1, 0), (3, 1)), ((0, 0), (True, False), (3, 1))):
            self.tells(False, CORNERS, *LINK, ("bends", path, PAPER[2]))

    def test_anything_else(self):
        for thing in anything():
            self.tells(False, CORNERS, *LINK, thing)
            self.tells(False, CORNERS, (0, 0), (1, 0), thing)
            self.tells(False, CORNERS, *LINK, ("bends", thing, PAPER[2]))
            self.tells(False, CORNERS, *LINK, ("bends", PAPER[1], thing))
            self.tells(False, CORNERS, *LINK, ("bends", PAPER[1], (thing, PAPER[2][1])))
        for kind in ("tuple", "list", "dict"):
            self.tells(False, CORNERS, *LINK, ("bends", PAPER[1], (STAYS, nested(38, kind))))
        self.tells(False, CORNERS, *LINK, ("bends", PAPER[1][:2] + ((3, GREAT),), PAPER[2]))
        deep = STAYS
        for k in range(19):
            deep = ("bends", PAPER[1], (STAYS, deep))
        self.tells(False, CORNERS, *LINK, deep)


if __name__ == "__main__":
    unittest.main()

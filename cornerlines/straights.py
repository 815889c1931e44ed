"""Walks and lands of straight lines, told by knots."""

from cornerlines.areas import doubled_area
from cornerlines.knots import pieces_of
from cornerlines.nests import lands_by
from cornerlines.tracing import walks_by
from cornerlines.wholes import lowest


def straight_walks(lines):
    """All walks of the lines, rising, each told by its knots from its least half on."""
    return walks_by(pieces_of(lines))


def straight_lands(lines):
    """(border, rims) of each land, the outer one first, whose border is (), the others by borders."""
    # Each knot lies on a line, so there are no dots.
    return tuple([(border, rims) for border, rims, dots in lands_by(straight_walks(lines), ())])


def straight_area(grain, land):
    """Twice the area of a land, in cells: (n, d); None of the outer one."""
    border, rims = land
    if border == ():
        return None
    n, d = doubled_area((border, *rims))
    return lowest(n, d * grain * grain)

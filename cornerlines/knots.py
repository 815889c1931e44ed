"""Knots, where lines end or have something in common, and the pieces between them."""

from cornerlines.crossing import common
from cornerlines.links import links_of
from cornerlines.shares import share_of
from cornerlines.turns import in_turn
from cornerlines.wholes import is_less


def knots_of(lines):
    """The spots of all ends and of what any two lines have in common, rising."""
    return tuple(sorted(set([knot for line in lines for knot in knots_on(lines, line)])))


def pieces_of(lines):
    """(U, V) of any two knots next to one another on a line, the lesser one first, rising."""
    return links_of([knots_on(lines, line) for line in lines])


def knots_on(lines, line):
    """The knots on one of the lines, in order along it."""
    # What a line has in common with itself are its ends.
    spots = sorted(set([spot for other in lines for spot in common(line, other)]))
    rows = [(share_of(line, spot), spot) for spot in spots]
    rows = in_turn(rows, lambda row, further: is_less(row[0], further[0]))
    return tuple([spot for share, spot in rows])

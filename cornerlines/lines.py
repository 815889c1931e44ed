"""Grains, points and lines, and the corner that is nearest to a point."""

from cornerlines.wholes import are_wholes, is_whole, nearest

MOST_LINES = 12


def is_grain(thing):
    """Whether this is a whole number from 1 on."""
    return is_whole(thing) and thing >= 1


def is_point(thing):
    """Whether this is (x, y), two whole numbers."""
    return are_wholes(thing, 2)


def is_line(thing):
    """Whether this is (a, b), two unlike points."""
    if not isinstance(thing, tuple) or len(thing) != 2:
        return False
    return is_point(thing[0]) and is_point(thing[1]) and thing[0] != thing[1]


def are_lines(thing):
    """Whether this is a tuple of lines, perhaps of none."""
    return isinstance(thing, tuple) and all(is_line(part) for part in thing)


def corner_of(grain, point):
    """The corner in whose cell the point lies."""
    x, y = point
    return nearest(x, grain), nearest(y, grain)

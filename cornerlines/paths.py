"""Paths: the corners through which a line is bent, in order along it."""

from cornerlines.cells import meets
from cornerlines.steps import step_of
from cornerlines.wants import corners_of
from cornerlines.wholes import are_wholes


def is_path(thing):
    """Whether this is a tuple of one or more corners, none twice."""
    if not isinstance(thing, tuple) or thing == ():
        return False
    return all(are_wholes(part, 2) for part in thing) and len(set(thing)) == len(thing)


def path_of(grain, line, corners):
    """Those of the corners whose cells the line meets, in order along it."""
    return in_order(line, [corner for corner in corners if meets(grain, line, corner)])


def in_order(line, corners):
    """The corners, whose cells the line meets, in order along it."""
    dx, dy = step_of(line)
    # Neither number ever goes back against the line, so they tell the order.
    return tuple(sorted(corners, key=lambda corner: (corner[0] * dx, corner[1] * dy)))


def drawn(grain, lines):
    """(corners, paths) of the drawing of these lines."""
    corners = corners_of(grain, lines)
    return corners, tuple([path_of(grain, line, corners) for line in lines])

"""Where lines leave the cell of a corner, in order round its rim."""

from cornerlines.cells import shares_within
from cornerlines.paths import drawn
from cornerlines.rims import rims_of
from cornerlines.steps import step_of, turn_of
from cornerlines.turns import in_turn, is_ahead
from cornerlines.wholes import is_less


def leavings(grain, lines, corner):
    """(k, way, the corner to which it goes on) of each line that leaves the corner, round the rim against the clock."""
    corners, paths = drawn(grain, lines)
    return tuple([going for place, turned, going in leaving_rows(grain, lines, paths, corner)])


def leaving_rows(grain, lines, paths, corner):
    """(how far round the rim, its way seen from there, the leaving) of each leaving, in order."""
    rows = []
    for k, way, further in goings(paths, corner):
        place, turned = leaving_of(grain, line_gone(lines, k, way), corner)
        rows.append((place, turned, (k, way, further)))
    return in_turn(rows, leaves_ahead)


def line_gone(lines, k, way):
    """Line k, gone the way 0 or 1."""
    return lines[k] if way == 0 else lines[k][::-1]


def goings(paths, corner):
    """(k, way, the corner to which it goes on) of each path that goes on from the corner, rising."""
    rows = []
    for k, path in enumerate(paths):
        for way, gone in enumerate((path, path[::-1])):
            if corner in gone[:-1]:
                rows.append((k, way, gone[gone.index(corner) + 1]))
    return rows


def leaving_of(grain, line, corner):
    """Where the line leaves the corner's cell: (how far round the rim, its way seen from towards the corner on)."""
    k, m = shares_within(grain, line, corner)[1]
    side = 2 * grain * m
    # How far the point lies beyond the rim's lower left one, in so many parts of a point.
    x, y = [
        2 * (m * start + k * step) - m * rims_of(grain, number)[0]
        for start, step, number in zip(line[0], step_of(line), corner)
    ]
    towards, way = (side // 2 - x, side // 2 - y), step_of(line)
    round_it = turn_of(towards, way)
    if x == side or y == side:
        # Not in the cell, so it is gone round with the clock.
        round_it = -round_it
    return (along_rim(x, y, side), m), (towards[0] * way[0] + towards[1] * way[1], round_it)


def along_rim(x, y, side):
    """How far a point of the rim of a cell, as wide as the side, is from the lower left one, against the clock."""
    if y == 0:
        return x
    if x == side:
        return side + y
    if y == side:
        return 3 * side - x
    return 4 * side - y


def leaves_ahead(one, other):
    """Whether the one leaving is told ahead of the other one, wherever they leave."""
    if is_less(one[0], other[0]) or is_less(other[0], one[0]):
        return is_less(one[0], other[0])
    return is_ahead(one[1], other[1])

"""What becomes of a walk of knots."""

from cornerlines.knots import knots_on
from cornerlines.links import halves_round
from cornerlines.paths import drawn
from cornerlines.spots import corner_at


def bent_walk(grain, lines, walk):
    """The corners through which the walk is bent, from its first knot's on."""
    corners, paths = drawn(grain, lines)
    rows = [(knots_on(lines, line), path) for line, path in zip(lines, paths)]
    told = []
    for one, other in halves_round(walk):
        path = path_along(rows, one, other)
        told.extend(part_of(path, corner_at(grain, one), corner_at(grain, other)))
    return less_alike(told)


def path_along(rows, one, other):
    """The path of the first line, of (its knots, its path), on which both knots lie."""
    return [path for knots, path in rows if one in knots and other in knots][0]


def part_of(path, first, last):
    """The corners of the path from the first to the last one, either way."""
    k, l = path.index(first), path.index(last)
    return path[k:l + 1] if k <= l else path[l:k + 1][::-1]


def less_alike(corners):
    """The corners, of alike neighbours just one; the first one is the last one's neighbour."""
    told = [corner for k, corner in enumerate(corners) if k == 0 or corner != corners[k - 1]]
    if len(told) > 1 and told[0] == told[-1]:
        told.pop()
    return tuple(told)

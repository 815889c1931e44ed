"""Which straight land each bent land comes of."""

from cornerlines.cells import shares_within
from cornerlines.knots import knots_on
from cornerlines.lands import lands_of
from cornerlines.leaving import leaving_rows, line_gone
from cornerlines.links import halves_round
from cornerlines.paths import drawn
from cornerlines.shares import share_of, spot_at
from cornerlines.spots import corner_at
from cornerlines.straights import straight_lands
from cornerlines.wholes import is_less


def sources(grain, lines):
    """For each bent land the number of the straight land that it comes of."""
    corners, paths = drawn(grain, lines)
    at_left = lands_at_left(lines)
    told = [0]
    for border, rims, dots in lands_of(paths)[1:]:
        line = last_leaving(grain, lines, paths, border[0], border[1])
        told.append(at_left[piece_at(grain, lines, line, border[0])])
    return tuple(told)


def became(grain, lines):
    """For each straight land the numbers of the bent lands that come of it, rising."""
    told = sources(grain, lines)
    return tuple([
        tuple([number for number, source in enumerate(told) if source == k]) for k in range(len(straight_lands(lines)))
    ])


def lands_at_left(lines):
    """The number of the straight land at the left hand of each half of pieces."""
    return {
        half: k for k, (border, rims) in enumerate(straight_lands(lines))
        for walk in (border, *rims) for half in halves_round(walk)
    }


def last_leaving(grain, lines, paths, corner, further):
    """The last line, gone its way, of those that leave the least corner of a border on to the next one."""
    # No corner of the border lies farther left, so none of them leaves by
    # the left side, from which it would be gone round on to the lower one.
    rows = [row for row in leaving_rows(grain, lines, paths, corner) if row[-1][-1] == further]
    k, way = rows[-1][-1][:2]
    return line_gone(lines, k, way)


def piece_at(grain, lines, line, corner):
    """The piece of the line, gone its way, that lies just short of where it leaves the cell, or just beyond it."""
    share = shares_within(grain, line, corner)[1]
    beyond = corner_at(grain, spot_at(line, *share)) == corner
    knots = knots_on(lines, line)
    behind = [knot for knot in knots if lies_behind(share_of(line, knot), share, beyond)]
    return knots[len(behind) - 1], knots[len(behind)]


def lies_behind(share, other, even):
    """Whether the share is less than the other one, or even as great."""
    return is_less(share, other) or (even and not is_less(other, share))

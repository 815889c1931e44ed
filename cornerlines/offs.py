"""How far off a path lies from a line, and a paper that it lies no farther."""

from cornerlines.steps import step_of
from cornerlines.wholes import greater_of, is_less, lowest


def off_of(grain, line, path):
    """The greatest, over the path's corners, of how far the nearest point of the line is: (n, d), in cells."""
    off = (0, 1)
    for corner in path:
        off = greater_of(off, way_off(grain, line, corner, nearest_share(grain, line, corner)))
    return lowest(*off)


def off_paper(grain, line, path):
    """A paper for the off: for each of the path's corners the share of the nearest point."""
    return tuple([nearest_share(grain, line, corner) for corner in path])


def way_off(grain, line, corner, share):
    """How far by the wider number the line's point at this share (k, m) is from the corner: (n, d), in cells."""
    k, m = share
    (x, y), (dx, dy) = way_from(grain, line, corner), step_of(line)
    return max(abs(m * x + k * dx), abs(m * y + k * dy)), m * grain


def way_from(grain, line, corner):
    """How far the line's first point is from the corner by each number."""
    i, j = corner
    return step_of(((i * grain, j * grain), line[0]))


def nearest_share(grain, line, corner):
    """The first share (k, m) at which the line is nearest to the corner."""
    best = (0, 1)
    for share in turning_shares(grain, line, corner):
        if is_less(way_off(grain, line, corner, share), way_off(grain, line, corner, best)):
            best = share
    return best


def turning_shares(grain, line, corner):
    """Shares of the line: its last one, and those where both numbers are as far from the corner."""
    (x, y), (dx, dy) = way_from(grain, line, corner), step_of(line)
    shares = [(1, 1)]
    # On the way the wider number can only turn from less to more where the other one is as wide.
    for k, m in ((y - x, dx - dy), (-x - y, dx + dy)):
        if m < 0:
            k, m = -k, -m
        if 0 <= k <= m and m > 0:
            shares.append(lowest(k, m))
    return shares

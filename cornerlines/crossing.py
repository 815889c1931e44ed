"""What two lines have in common, and a paper that shows why."""

from cornerlines.shares import share_of, spot_at
from cornerlines.steps import greatest_by, least_by, side_of, step_of, turn_of, ways_across


def common(one, other):
    """The spots of what both lines have: none, the point, or the stretch's two ends, rising."""
    if turn_of(step_of(one), step_of(other)) != 0:
        return common_across(one, other)
    if side_of(one, other[0]) != 0:
        return ()
    return common_along(one, other)


def common_paper(one, other):
    """A paper of it: apart where they have nothing in common, else meets."""
    spots = common(one, other)
    if spots == ():
        return apart_paper(one, other)
    k, m = share_of(one, spots[0])
    l, n = share_of(other, spots[0])
    return ("meets", k, m, l, n)


def common_across(one, other):
    """What they have in common, where they turn against each other."""
    way, across = step_of(one), step_of(other)
    between = step_of((one[0], other[0]))
    m = turn_of(way, across)
    k, l = turn_of(between, across), turn_of(between, way)
    if m < 0:
        k, l, m = -k, -l, -m
    if 0 <= k <= m and 0 <= l <= m:
        return (spot_at(one, k, m),)
    return ()


def common_along(one, other):
    """What they have in common, where both lie on one straight line."""
    # Along a straight line the points rise, as tuples, from one end to the other.
    low = max(min(one), min(other))
    high = min(max(one), max(other))
    if low > high:
        return ()
    ends = (low,) if low == high else (low, high)
    return tuple([(x, y, 1) for x, y in ends])


def apart_paper(one, other):
    """A paper that they are apart, which they must be."""
    dx, dy = step_of(one)
    # One of these ways parts any two lines that are apart: a way across one
    # of them, or one along them where both lie on one straight line.
    ways = (*ways_across(one), *ways_across(other), (dx, dy), (-dx, -dy))
    p, q = max(ways, key=lambda way: gap_by(way, one, other))
    # Twofold, so that a whole number lies between the two.
    return ("apart", 2 * p, 2 * q, greatest_by(one, p, q) + least_by(other, p, q))


def gap_by(way, one, other):
    """How far the other line lies beyond the one, gone this way."""
    p, q = way
    return least_by(other, p, q) - greatest_by(one, p, q)

"""Whether a line meets a cell, and a paper that shows why."""

from cornerlines.rims import keeps_below, rims_of
from cornerlines.shares import spot_at
from cornerlines.spots import corner_at
from cornerlines.steps import least_by, step_of, ways_across
from cornerlines.wholes import greater_of, is_less, lesser_of, lowest


def meets(grain, line, corner):
    """Whether some point of the line lies in the corner's cell."""
    return share_in(grain, line, corner) is not None


def meets_paper(grain, line, corner):
    """A paper of it: meets where the line meets the cell, else misses."""
    share = share_in(grain, line, corner)
    if share is None:
        return misses_paper(grain, line, corner)
    k, m = share
    return ("meets", k, m)


def share_in(grain, line, corner):
    """A share (k, m) of the line that lies in the cell; None where none does."""
    shares = shares_within(grain, line, corner)
    if shares is None:
        return None
    (k, m), (l, n) = shares
    # Midway the line lies on a side only where it keeps to that side. So if
    # it lies in the cell at all, it does so there.
    midway = lowest(k * n + l * m, 2 * m * n)
    if corner_at(grain, spot_at(line, *midway)) != corner:
        return None
    return midway


def shares_within(grain, line, corner):
    """The first and the last share that lies in the cell or on its rim; None where none does."""
    first, last = (0, 1), (1, 1)
    for start, step, number in zip(line[0], step_of(line), corner):
        near, far = [rim - 2 * start for rim in rims_of(grain, number)]
        if step == 0:
            if near > 0 or far < 0:
                return None
        else:
            if step < 0:
                near, far = -far, -near
            first = greater_of(first, (near, 2 * abs(step)))
            last = lesser_of(last, (far, 2 * abs(step)))
    if is_less(last, first):
        return None
    return first, last


def misses_paper(grain, line, corner):
    """A paper that the line doesn't meet the cell, which it mustn't."""
    # One of these ways parts any line from a cell that it doesn't meet: one
    # across a side of the cell, or one across the line.
    ways = ((1, 0), (0, 1), (-1, 0), (0, -1), *ways_across(line))
    p, q = [way for way in ways if lies_beyond(grain, line, corner, way)][0]
    return ("misses", p, q, 2 * least_by(line, p, q))


def lies_beyond(grain, line, corner, way):
    """Whether the line lies beyond all of the cell, gone this way."""
    p, q = way
    return keeps_below(grain, corner, p, q, 2 * least_by(line, p, q))

"""Whether something is a paper of a line that meets a cell, or doesn't."""

from cornerlines.papers import is_paper
from cornerlines.rims import keeps_below
from cornerlines.shares import is_share, spot_at
from cornerlines.spots import corner_at


def meets_holds(grain, line, corner, thing):
    """Whether this is a paper of the line and the corner's cell, of either kind."""
    return met_holds(grain, line, corner, thing) or missed_holds(grain, line, corner, thing)


def met_holds(grain, line, corner, thing):
    """Whether this is a paper that the line meets the cell."""
    if not is_paper(thing, "meets", 2):
        return False
    k, m = thing[1:]
    return is_share(k, m) and corner_at(grain, spot_at(line, k, m)) == corner


def missed_holds(grain, line, corner, thing):
    """Whether this is a paper that the line doesn't meet the cell."""
    if not is_paper(thing, "misses", 3):
        return False
    p, q, r = thing[1:]
    if (p, q) == (0, 0) or not keeps_below(grain, corner, p, q, r):
        return False
    return all(2 * (p * x + q * y) >= r for x, y in line)

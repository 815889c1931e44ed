"""Whether something is a paper of what two lines have in common."""

from cornerlines.papers import is_paper
from cornerlines.shares import is_share, spot_at


def common_holds(one, other, thing):
    """Whether this is a paper of the two lines, of either kind."""
    return apart_holds(one, other, thing) or meets_at(one, other, thing) is not None


def apart_holds(one, other, thing):
    """Whether this is a paper that the two lines are apart."""
    if not is_paper(thing, "apart", 3):
        return False
    p, q, r = thing[1:]
    below = all(p * x + q * y < r for x, y in one)
    return below and all(p * x + q * y > r for x, y in other)


def meets_at(one, other, thing):
    """The spot at which a paper shows that both lines meet; None where it is no such paper."""
    if not is_paper(thing, "meets", 4):
        return None
    k, m, l, n = thing[1:]
    if not is_share(k, m) or not is_share(l, n):
        return None
    spot = spot_at(one, k, m)
    return spot if spot == spot_at(other, l, n) else None

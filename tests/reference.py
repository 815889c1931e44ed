"""What the document says, told over slowly, with exact fractions.

Nothing here uses the program, so that both can be held against each other.
"""

from fractions import Fraction
from math import floor, gcd

HALF = Fraction(1, 2)


def corner_near(x, y):
    """The corner whose cell has this place, in cells."""
    return floor(Fraction(x) + HALF), floor(Fraction(y) + HALF)


def corner_by(grain, x, y):
    """The corner whose cell has this place, in numbers of points."""
    return corner_near(Fraction(x) / grain, Fraction(y) / grain)


def place_at(line, share):
    """Where the line is at this share, in numbers of points."""
    (x, y), (far_x, far_y) = line
    share = Fraction(share)
    return x + share * (far_x - x), y + share * (far_y - y)


def spot_by(x, y):
    """The spot of this place."""
    x, y = Fraction(x), Fraction(y)
    d = x.denominator * y.denominator // gcd(x.denominator, y.denominator)
    return int(x * d), int(y * d), d


def share_by(line, place):
    """The share of the line at which it comes to this place, None where it doesn't."""
    (x, y), (far_x, far_y) = line
    if far_x != x:
        share = Fraction(place[0] - x) / (far_x - x)
    else:
        share = Fraction(place[1] - y) / (far_y - y)
    if 0 <= share <= 1 and place_at(line, share) == tuple(place):
        return share
    return None


def are_on_one(points):
    """Whether all these points lie on one straight line."""
    (x, y), rest = points[0], points[1:]
    return all(
        (ax - x) * (by - y) == (bx - x) * (ay - y) for ax, ay in rest for bx, by in rest
    )


def common_by(one, other):
    """The places that both lines have, or the ends of their stretch, rising."""
    (x, y), (far_x, far_y) = one
    (u, v), (far_u, far_v) = other
    a, b = far_x - x, u - far_u
    c, d = far_y - y, v - far_v
    if a * d - b * c == 0:
        ends = {point for point in one if share_by(other, point) is not None}
        ends |= {point for point in other if share_by(one, point) is not None}
        return sorted(ends)
    share = Fraction((u - x) * d - b * (v - y), a * d - b * c)
    place = place_at(one, share)
    if 0 <= share <= 1 and share_by(other, place) is not None:
        return [place]
    return []


def is_number(thing):
    return isinstance(thing, int) and not isinstance(thing, bool)


def are_numbers(things):
    return all(is_number(part) for part in things)


def is_row(thing, word, many):
    """Whether this is (word, numbers), of so many parts altogether."""
    if not isinstance(thing, tuple) or len(thing) != many or not isinstance(thing[0], str):
        return False
    return thing[0] == word and are_numbers(thing[1:])


def apart_by(one, other, thing):
    """Whether this is a paper that two lines are apart."""
    if not is_row(thing, "apart", 4):
        return False
    word, p, q, r = thing
    return all(p * x + q * y < r for x, y in one) and all(p * x + q * y > r for x, y in other)


def met_by(one, other, thing):
    """The place at which a paper shows that two lines meet, else None."""
    if not is_row(thing, "meets", 5):
        return None
    word, k, m, l, n = thing
    if m < 1 or n < 1 or not 0 <= k <= m or not 0 <= l <= n:
        return None
    place = place_at(one, Fraction(k, m))
    return place if place == place_at(other, Fraction(l, n)) else None


def common_paper_by(one, other, thing):
    """Whether this is a paper of two lines, of either kind."""
    return apart_by(one, other, thing) or met_by(one, other, thing) is not None


def wants_by(grain, lines):
    """(corner, wants) of each corner that something wants, rising."""
    wants = {}
    for k, line in enumerate(lines):
        for e in (0, 1):
            wants.setdefault(corner_by(grain, *line[e]), set()).add(("end", k, e))
        for l in range(k):
            places = common_by(lines[l], line)
            if len(places) == 1:
                wants.setdefault(corner_by(grain, *places[0]), set()).add(("cross", l, k))
    return tuple((corner, tuple(sorted(wants[corner]))) for corner in sorted(wants))


def unwanted_by(grain, lines, corner, thing):
    """Whether this is a paper that nothing wants the corner."""
    pairs = [(k, l) for k in range(len(lines)) for l in range(k + 1, len(lines))]
    if not isinstance(thing, tuple) or len(thing) != len(pairs):
        return False
    if any(corner_by(grain, *point) == corner for line in lines for point in line):
        return False
    for (k, l), part in zip(pairs, thing):
        place = met_by(lines[k], lines[l], part)
        along = isinstance(part, tuple) and len(part) == 1 and part[0] == "along"
        if along and are_on_one(lines[k] + lines[l]):
            continue
        if apart_by(lines[k], lines[l], part):
            continue
        if place is None or corner_by(grain, *place) == corner:
            return False
    return True


def rim_shares(grain, line, corner):
    """The shares of the line's ends and of where it comes to a side's straight line, rising."""
    (x, y), (far_x, far_y) = line
    shares = {Fraction(0), Fraction(1)}
    for start, end, number in ((x, far_x, corner[0]), (y, far_y, corner[1])):
        for rim in (number - HALF, number + HALF):
            if start != end:
                shares.add((rim * grain - start) / (end - start))
    return sorted(share for share in shares if 0 <= share <= 1)


def shares_by(grain, line, corner):
    """Shares of the line, one at least of those that lie in the cell if any does, rising."""
    shares = rim_shares(grain, line, corner)
    midways = [(low + high) / 2 for low, high in zip(shares, shares[1:])]
    shares = sorted(shares + midways)
    return [share for share in shares if corner_by(grain, *place_at(line, share)) == corner]


def meets_by(grain, line, corner):
    """Whether the line meets the cell."""
    return shares_by(grain, line, corner) != []


def meets_paper_by(grain, line, corner, thing):
    """Whether this is a paper of a line and a cell, of either kind."""
    if is_row(thing, "meets", 3):
        word, k, m = thing
        if m < 1 or not 0 <= k <= m:
            return False
        return corner_by(grain, *place_at(line, Fraction(k, m))) == corner
    if not is_row(thing, "misses", 4):
        return False
    word, p, q, r = thing
    if p == 0 and q == 0:
        return False
    i, j = corner
    rims = [
        p * x + q * y
        for x in ((2 * i - 1) * grain, (2 * i + 1) * grain)
        for y in ((2 * j - 1) * grain, (2 * j + 1) * grain)
    ]
    if max(rims) > r or (max(rims) == r and not (p > 0 or q > 0)):
        return False
    return all(2 * (p * x + q * y) >= r for x, y in line)


def path_by(grain, line, corners):
    """Those of the corners whose cells the line meets, in order along it."""
    first = {corner: shares_by(grain, line, corner) for corner in corners}
    met = [corner for corner in corners if first[corner]]
    return tuple(sorted(met, key=lambda corner: first[corner][0]))


def turned(line):
    """The line from behind."""
    return line[1], line[0]

"""What the document says of bent lines, told over slowly, with exact fractions.

Nothing here uses the program, so that both can be held against each other.
"""

from fractions import Fraction
from functools import cache

from reference import (
    HALF, are_numbers, common_by, is_row, meets_by, meets_paper_by, path_by, place_at, rim_shares, share_by, shares_by, wants_by,
)


def path_paper_by(grain, line, corners, path, thing):
    """Whether this is a paper by which the line has this path."""
    if not isinstance(path, tuple) or not all(isinstance(part, tuple) and are_numbers(part) for part in path):
        return False
    if not isinstance(thing, tuple) or len(thing) != len(corners):
        return False
    if not all(meets_paper_by(grain, line, corner, part) for corner, part in zip(corners, thing)):
        return False
    met = [corner for corner, part in zip(corners, thing) if is_row(part, "meets", 3)]
    return path == tuple(sorted(met, key=lambda corner: shares_by(grain, line, corner)[0]))


def wide(grain, line, corner, share):
    """How far by the wider number, in cells, the line's point at the share is from the corner."""
    return max(abs(number / grain - middle) for number, middle in zip(place_at(line, share), corner))


def least_wide(grain, line, corner):
    """How far the line's nearest point is from the corner."""
    (x, y), (far_x, far_y) = line
    dx, dy = far_x - x, far_y - y
    x, y = x - grain * corner[0], y - grain * corner[1]
    rows = [(x, dx), (-x, -dx), (y, dy), (-y, -dy)]
    # The greatest of these four, at a share, is the least one at an end or where two are alike.
    shares = {Fraction(0), Fraction(1)}
    for start, step in rows:
        for other, step_too in rows:
            if step != step_too:
                shares.add(Fraction(other - start, step - step_too))
    return min(wide(grain, line, corner, share) for share in shares if 0 <= share <= 1)


def off_by(grain, line, path):
    """The path's off from the line, in cells."""
    return max(least_wide(grain, line, corner) for corner in path)


def off_paper_by(grain, line, path, off, thing):
    """Whether this is a paper that the path's off from the line is at most this."""
    if not isinstance(off, tuple) or len(off) != 2 or not are_numbers(off) or off[0] < 0 or off[1] < 1:
        return False
    if not isinstance(thing, tuple) or len(thing) != len(path):
        return False
    for corner, part in zip(path, thing):
        if not isinstance(part, tuple) or len(part) != 2 or not are_numbers(part):
            return False
        k, m = part
        if m < 1 or not 0 <= k <= m or wide(grain, line, corner, Fraction(k, m)) > Fraction(*off):
            return False
    return True


def links_by(paths):
    """The links of the paths, rising, each once."""
    links = set()
    for path in paths:
        for k in range(1, len(path)):
            links.add((min(path[k - 1], path[k]), max(path[k - 1], path[k])))
    return tuple(sorted(links))


def trouble_by(paths):
    """None, or the first of what keeps the paths from being plane."""
    links = links_by(paths)
    for corner in sorted({corner for path in paths for corner in path}):
        for link in links:
            if corner not in link and share_by(link, corner) is not None:
                return "on", corner, link
    for k, one in enumerate(links):
        for other in links[k + 1:]:
            places = common_by(one, other)
            if len(places) > 1 or any(place not in one or place not in other for place in places):
                return "cross", one, other
    return None


def angle_of(x, y):
    """How far against the clock from the right this way lies, from 0 to below 4: not an angle, but rising with it."""
    flat = Fraction(x, abs(x) + abs(y))
    return 1 - flat if y > 0 or (y == 0 and x > 0) else (3 + flat) % 4


def angle_between(corner, first, way):
    """How far against the clock from the first other corner, seen from the corner, the way one is come to."""
    (i, j), (x, y), (u, v) = corner, first, way
    return (angle_of(u - i, v - j) - angle_of(x - i, y - j)) % 4


def stretches_by(one, other):
    """(i, j) of each stretch, rising."""
    back = other[::-1]
    rows = []
    for i in range(len(one)):
        for j in range(i, len(one)):
            part = one[i:j + 1]
            if any(way[k:k + len(part)] == part for way in (other, back) for k in range(len(other))):
                rows.append((i, j))
    return tuple(
        (i, j) for i, j in rows if not any((k, l) != (i, j) and k <= i and j <= l for k, l in rows)
    )


def side_by(one, k, beyond):
    """Where this other corner lies of the path at its corner k."""
    if k == 0 or k == len(one) - 1 or beyond is None:
        return "end"
    out = angle_between(one[k], one[k + 1], beyond)
    return "left" if out < angle_between(one[k], one[k + 1], one[k - 1]) else "right"


def sides_by(one, other):
    """(i, j, first, last) of each stretch, rising."""
    rows = []
    for i, j in stretches_by(one, other):
        way = other if i == j or other.index(one[i]) < other.index(one[j]) else other[::-1]
        first, last = way.index(one[i]), way.index(one[j])
        ahead = way[first - 1] if first > 0 else None
        behind = way[last + 1] if last + 1 < len(way) else None
        rows.append((i, j, side_by(one, i, ahead), side_by(one, j, behind)))
    return tuple(rows)


def passes_by(one, other):
    """Those of the stretches that are passes."""
    return tuple((i, j) for i, j, first, last in sides_by(one, other) if {first, last} == {"left", "right"})


@cache
def bent_by(corners, one, other):
    """What the link, gone this way, becomes when it is done again."""
    return path_by(1, (one, other), corners)


def again_by(corners, paths):
    """The paths done again."""
    told = []
    for path in paths:
        done = list(path[:1])
        for one, other in zip(path, path[1:]):
            done += bent_by(corners, one, other)[1:]
        told.append(tuple(done))
    return tuple(told)


def doings_by(corners, paths):
    """The paths behind each time that something came."""
    told = []
    while again_by(corners, paths) != paths:
        paths = again_by(corners, paths)
        told.append(paths)
    return tuple(told)


def unsettled_by(corners, paths):
    """None, or the first link with the first corner whose cell it meets without ending there."""
    for link in links_by(paths):
        for corner in sorted(corners):
            if corner not in link and meets_by(1, link, corner):
                return link, corner
    return None


def becoming_by(corners, one, other):
    """The paper of what becomes of the link, gone this way."""
    path = bent_by(corners, one, other)
    if path == (one, other):
        return ("stays",)
    return "bends", path, tuple(becoming_by(corners, *half) for half in zip(path, path[1:]))


def round_by(paths, corner):
    """The other ends of the links round the corner, against the clock from the right on."""
    i, j = corner
    ends = {end for link in links_by(paths) if corner in link for end in link} - {corner}
    return tuple(sorted(ends, key=lambda end: angle_of(end[0] - i, end[1] - j)))


def rim_by(x, y):
    """How far round the rim of a cell this place is, seen from its middle, from the lower left point on."""
    if y == -HALF:
        return x + HALF
    if x == HALF:
        return 1 + y + HALF
    return 3 - (x + HALF) if y == HALF else 4 - (y + HALF)


@cache
def drawn_by(grain, lines):
    """(corners, paths) of the drawing of these lines."""
    corners = tuple(corner for corner, wants in wants_by(grain, lines))
    return corners, tuple(path_by(grain, line, corners) for line in lines)


def leavings_by(grain, lines, corner):
    """The leavings of a corner."""
    corners, paths = drawn_by(grain, lines)
    rows = []
    for k, line in enumerate(lines):
        for way, gone in enumerate((line, line[::-1])):
            path = paths[k] if way == 0 else paths[k][::-1]
            if corner not in path[:-1]:
                continue
            places = [place_at(gone, share) for share in rim_shares(grain, gone, corner)]
            places = [(x / grain - corner[0], y / grain - corner[1]) for x, y in places]
            x, y = [place for place in places if max(abs(number) for number in place) <= HALF][-1]
            turned = angle_between((0, 0), (-x, -y), [end - start for start, end in zip(*gone)])
            if HALF in (x, y):
                turned = -turned % 4
            rows.append((rim_by(x, y), turned, k, way, path[path.index(corner) + 1]))
    return tuple(row[2:] for row in sorted(rows))


def is_just_by(thing, told):
    """Whether this is what is told, with no truth for a number and no list for a tuple."""
    return repr(thing) == repr(told)

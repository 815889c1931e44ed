"""What the document says of walks, lands and what becomes of them, told over slowly, with exact fractions.

Nothing here uses the program, so that both can be held against each other. A place is a corner or a spot.
"""

from fractions import Fraction
from functools import cache

from bent_reference import angle_of, drawn_by, leavings_by, links_by, rim_by
from reference import HALF, common_by, corner_by, path_by, place_at, rim_shares, share_by, spot_by


@cache
def place_of(place):
    """Where a corner or a spot lies, as fractions."""
    part = place[2] if len(place) == 3 else 1
    return Fraction(place[0], part), Fraction(place[1], part)


def gone_round(one, other):
    """How far against the clock from the right the other place lies, seen from the one."""
    (x, y), (far_x, far_y) = place_of(one), place_of(other)
    return angle_of(far_x - x, far_y - y)


def others_by(links):
    """What each place is linked to."""
    others = {}
    for one, other in links:
        others.setdefault(one, set()).add(other)
        others.setdefault(other, set()).add(one)
    return others


def behind_by(links):
    """The half behind each half: on to what comes last, gone against the clock from where it came from."""
    behind = {}
    for place, others in others_by(links).items():
        angles = {other: gone_round(place, other) for other in others}
        for came in others:
            on = max(others, key=lambda other: (angles[other] - angles[came]) % 4)
            behind[came, place] = (place, on)
    return behind


def walks_by(links):
    """All walks, rising, each from its least half on."""
    behind = behind_by(links)
    walks = set()
    for first in behind:
        walk = [first]
        while behind[walk[-1]] != first:
            walk.append(behind[walk[-1]])
        k = walk.index(min(walk))
        walks.add(tuple(half[0] for half in walk[k:] + walk[:k]))
    return tuple(sorted(walks))


@cache
def area_by(walk):
    """Twice the area of a walk of places."""
    places = [place_of(place) for place in walk]
    return sum(x * v - u * y for (x, y), (u, v) in zip(places, places[1:] + places[:1]))


def within_by(walk, x, y):
    """Whether a place, on no half of the walk, lies within it: by a way straight up from it."""
    places = [place_of(place) for place in walk]
    crossed = 0
    for (left, low), (right, high) in zip(places, places[1:] + places[:1]):
        if (left <= x) != (right <= x):
            crossed += low + (high - low) * (x - left) / (right - left) > y
    return crossed % 2 == 1


def parts_by(links, places):
    """The part, a set, of each place: what is linked together."""
    part = {place: {place} for place in places}
    for one, other in links:
        if part[one] is not part[other]:
            part[one] |= part[other]
            for place in part[other]:
                part[place] = part[one]
    return part


def lands_by(links, places):
    """(border, rims, dots) of each land, the outer one first."""
    walks, part = walks_by(links), parts_by(links, places)
    borders = [walk for walk in walks if area_by(walk) > 0]
    rims = [walk for walk in walks if area_by(walk) <= 0]
    dots = sorted(place for place in places if len(part[place]) == 1)
    about = {}
    for place in [rim[0] for rim in rims] + dots:
        over = [b for b in borders if b[0] not in part[place] and within_by(b, *place_of(place))]
        about[place] = min(over, key=area_by, default=())
    return tuple(
        (b, tuple(rim for rim in rims if about[rim[0]] == b), tuple(dot for dot in dots if about[dot] == b))
        for b in sorted([(), *borders])
    )


def bent_lands_by(paths):
    """The lands of plane paths."""
    return lands_by(links_by(paths), sorted({corner for path in paths for corner in path}))


def land_area_by(land):
    """Twice the area of a land that is not the outer one."""
    return sum(area_by(walk) for walk in (land[0], *land[1]))


@cache
def knots_on_by(lines, k):
    """The places of the knots on line k, in order along it."""
    places = {tuple(map(Fraction, point)) for point in lines[k]}
    for l, line in enumerate(lines):
        if l != k:
            places |= {tuple(map(Fraction, place)) for place in common_by(lines[k], line)}
    return tuple(sorted(places, key=lambda place: share_by(lines[k], place)))


def knots_by(lines):
    """The spots of all knots, rising."""
    return tuple(sorted({spot_by(*place) for k in range(len(lines)) for place in knots_on_by(lines, k)}))


def pieces_by(lines):
    """The pieces, the lesser knot first, rising."""
    pieces = set()
    for k in range(len(lines)):
        spots = [spot_by(*place) for place in knots_on_by(lines, k)]
        pieces |= {tuple(sorted(piece)) for piece in zip(spots, spots[1:])}
    return tuple(sorted(pieces))


@cache
def straight_lands_by(lines):
    """(border, rims) of each straight land, the outer one first."""
    return tuple(land[:2] for land in lands_by(pieces_by(lines), knots_by(lines)))


def land_at(lands, x, y):
    """The number of the land in which this place, on no line, lies."""
    over = [k for k, land in enumerate(lands) if k > 0 and within_by(land[0], x, y)]
    return min(over, key=lambda k: area_by(lands[k][0]), default=0)


def beside(lines, k, way, start, end):
    """A place at the left hand of line k, gone this way, between these two shares, with no line between."""
    line = lines[k] if way == 0 else lines[k][::-1]
    x, y = place_at(line, (start + end) / 2)
    (from_x, from_y), (to_x, to_y) = line
    far = Fraction(1)
    while True:
        left = (x - far * (to_y - from_y), y + far * (to_x - from_x))
        if not any(common_by(((x, y), left), other) not in ([], [(x, y)]) for other in lines):
            return left
        far /= 2


def leaving_share(grain, line, corner):
    """The share at which the line leaves the corner's cell."""
    told = None
    for share in rim_shares(grain, line, corner):
        x, y = place_at(line, share)
        if max(abs(x / grain - corner[0]), abs(y / grain - corner[1])) <= HALF:
            told = share
    return told


def sides_of_rim(far):
    """The sides of the rim, the lower one first, against the clock, on which it is so far round."""
    return {side for side in range(4) if (far - side) % 4 <= 1}


def last_by(rows):
    """The last of (how far round the rim, leaving), in order, that leave by one side or two neighbouring ones."""
    told = set()
    for first in range(4):
        if all(sides_of_rim(far) & {first, (first + 1) % 4} for far, leaving in rows):
            told.add(max(((far - first) % 4, k, leaving) for k, (far, leaving) in enumerate(rows))[2])
    if len(told) != 1:
        raise ValueError(f"the last of these is not clear: {rows}")
    return told.pop()


def source_of(grain, lines, one, other):
    """The number of the straight land that the bent land at the left of this half comes of."""
    rows = []
    for k, way, further in leavings_by(grain, lines, one):
        if further == other:
            line = lines[k] if way == 0 else lines[k][::-1]
            x, y = place_at(line, leaving_share(grain, line, one))
            rows.append((rim_by(Fraction(x) / grain - one[0], Fraction(y) / grain - one[1]), (k, way)))
    k, way = last_by(rows)
    line = lines[k] if way == 0 else lines[k][::-1]
    share = leaving_share(grain, line, one)
    knots = [share_by(line, place) for place in knots_on_by(lines, k)]
    if corner_by(grain, *place_at(line, share)) == one:
        start, end = share, min(knot for knot in knots if knot > share)
    else:
        start, end = max(knot for knot in knots if knot < share), share
    return land_at(straight_lands_by(lines), *beside(lines, k, way, start, end))


def halves_by(walk):
    """The halves of a walk."""
    return list(zip(walk, walk[1:] + walk[:1]))


def all_sources_by(grain, lines):
    """For each bent land the numbers of straight lands that any half of its border tells: a set."""
    corners, paths = drawn_by(grain, lines)
    return [{0}] + [
        {source_of(grain, lines, *half) for half in halves_by(border)} for border, rims, dots in bent_lands_by(paths)[1:]
    ]


def bent_walk_by(grain, lines, walk):
    """What becomes of a walk of knots: the corners whose cells its halves meet."""
    corners = drawn_by(grain, lines)[0]
    told = []
    for one, other in halves_by(walk):
        told += path_by(grain, (place_of(one), place_of(other)), corners)
    told = [corner for k, corner in enumerate(told) if k == 0 or corner != told[k - 1]]
    if len(told) > 1 and told[0] == told[-1]:
        told.pop()
    return tuple(told)


def where_by(paths, grain, spot):
    """Where the spot lies among the paths."""
    x, y = [number / grain for number in place_of(spot)]
    for corner in sorted({corner for path in paths for corner in path}):
        if corner == (x, y):
            return "corner", corner
    for link in links_by(paths):
        if share_by(link, (x, y)) is not None:
            return "link", link
    return "land", land_at(bent_lands_by(paths), x, y)

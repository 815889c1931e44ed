"""What wants a corner: the ends of lines, and their crossings."""

from cornerlines.crossing import common
from cornerlines.lines import corner_of
from cornerlines.spots import corner_at


def wants_of(grain, lines):
    """(corner, wants) of each corner that something wants, both rising."""
    found = {}
    for corner, want in (*end_wants(grain, lines), *cross_wants(grain, lines)):
        found.setdefault(corner, []).append(want)
    return tuple([(corner, tuple(sorted(found[corner]))) for corner in sorted(found)])


def corners_of(grain, lines):
    """The corners that something wants, rising."""
    return tuple([corner for corner, wants in wants_of(grain, lines)])


def end_wants(grain, lines):
    """(corner, want) of each end of a line."""
    rows = []
    for k, line in enumerate(lines):
        for e, point in enumerate(line):
            rows.append((corner_of(grain, point), ("end", k, e)))
    return rows


def cross_wants(grain, lines):
    """(corner, want) of each two lines that have just one point in common."""
    rows = []
    for k, l in pairs_below(len(lines)):
        spots = common(lines[k], lines[l])
        if len(spots) == 1:
            rows.append((corner_at(grain, spots[0]), ("cross", k, l)))
    return rows


def pairs_below(many):
    """All (k, l), k below l, of the numbers below many, rising."""
    return [(k, l) for k in range(many) for l in range(k + 1, many)]

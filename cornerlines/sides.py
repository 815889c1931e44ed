"""How two paths, plane together, pass one another: their stretches, and on which sides the other one lies."""

from cornerlines.steps import step_of, turn_of


def stretches(one, other):
    """(i, j) of each stretch, rising: its first and last corners' places in the one."""
    return tuple([(i, j) for i, j, first, last in sides_paper(one, other)])


def passes(one, other):
    """Those of the stretches at whose two ends the other path lies on the two sides of the one."""
    return tuple([(i, j) for i, j, first, last in sides_paper(one, other) if is_pass(first, last)])


def sides_paper(one, other):
    """(i, j, first, last) of each stretch, rising: where the other path lies at its first and last corners."""
    places = {corner: k for k, corner in enumerate(other)}
    return tuple([(i, j, *sides_of(one, other, places, i, j)) for i, j in shared_rows(one, places)])


def is_pass(first, last):
    """Whether the other path goes from the one side to the other one."""
    return (first, last) in (("left", "right"), ("right", "left"))


def shared_rows(one, places):
    """(i, j) of the longest rows of corners that are neighbours by these places, too."""
    rows = []
    for k, corner in enumerate(one):
        if corner not in places:
            continue
        if k > 0 and are_neighbours(places, one[k - 1], corner):
            rows[-1] = (rows[-1][0], k)
        else:
            rows.append((k, k))
    return rows


def are_neighbours(places, corner, further):
    """Whether both corners have places, and these are next to one another."""
    return corner in places and abs(places[corner] - places[further]) == 1


def sides_of(one, other, places, i, j):
    """Where the other path lies at the first and the last corner of a stretch."""
    first, last = places[one[i]], places[one[j]]
    way = -1 if last < first else 1
    return side_at(one, i, other, first - way), side_at(one, j, other, last + way)


def side_at(one, k, other, beyond):
    """Where the other path, at this place beyond the stretch, lies of the one at its corner k."""
    if not 0 < k < len(one) - 1 or not 0 <= beyond < len(other):
        return "end"
    behind, on, out = [step_of((one[k], corner)) for corner in (one[k - 1], one[k + 1], other[beyond])]
    return "left" if is_between(on, out, behind) else "right"


def is_between(first, way, last):
    """Whether this way, unlike both, is come to ahead of the last one, gone against the clock from the first one."""
    if turn_of(first, last) > 0:
        return turn_of(first, way) > 0 and turn_of(way, last) > 0
    return turn_of(first, way) > 0 or turn_of(way, last) > 0

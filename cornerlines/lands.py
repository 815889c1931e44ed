"""Lands: what plane paths part from one another."""

from cornerlines.nests import lands_by
from cornerlines.walks import walk_area, walks_of


def lands_of(paths):
    """(border, rims, dots) of each land, the outer one first, whose border is (), the others by borders."""
    walks = walks_of(paths)
    return lands_by(walks, dots_of(paths, walks))


def dots_of(paths, walks):
    """The corners of the paths that no link, and so no walk, comes to, rising."""
    linked = {corner: True for walk in walks for corner in walk}
    return sorted(set([corner for path in paths for corner in path if corner not in linked]))


def land_area(land):
    """Twice the area of a land; None of the outer one."""
    border, rims, dots = land
    if border == ():
        return None
    return sum([walk_area(walk) for walk in (border, *rims)])

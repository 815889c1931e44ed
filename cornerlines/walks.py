"""Walks along the links of plane paths, each with a land at its left hand."""

from cornerlines.areas import doubled_area
from cornerlines.links import links_of
from cornerlines.tracing import walks_by


def walks_of(paths):
    """All walks of the paths, rising, each told by its corners from its least half on."""
    return walks_by(links_of(paths))


def walk_area(walk):
    """Twice the area of a walk of corners: above 0 of a border, else of a rim."""
    # Corners lie at whole numbers, so there is nothing to part by.
    return doubled_area((walk,))[0]

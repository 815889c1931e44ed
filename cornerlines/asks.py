"""Where a spot lies among plane paths."""

from cornerlines.lands import lands_of
from cornerlines.links import links_of
from cornerlines.nests import least_about
from cornerlines.places import lies_on
from cornerlines.spots import spot_of


def where(paths, grain, spot):
    """("corner", A), ("link", link) or ("land", k), whichever the spot lies at, on or in."""
    n, m, d = spot
    place = spot_of(n, m, d * grain)
    i, j, parts = place
    if parts == 1 and any((i, j) in path for path in paths):
        return ("corner", (i, j))
    for link in links_of(paths):
        if lies_on(link, place):
            return ("link", link)
    borders = [land[0] for land in lands_of(paths)]
    return ("land", borders.index(least_about(borders, place)))

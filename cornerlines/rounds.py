"""Round a corner of paths: what it is linked to, in order."""

from cornerlines.links import links_of
from cornerlines.places import way_between
from cornerlines.turns import in_turn, is_ahead


def round_of(paths, corner):
    """The other ends of the links round the corner, gone against the clock from the right on."""
    others = [other for link in links_of(paths) if corner in link for other in link if other != corner]
    return round_by(corner, others)


def round_by(place, others):
    """These other places, gone round the place against the clock from the right on."""
    rows = [(way_between(place, other), other) for other in others]
    rows = in_turn(rows, lambda row, further: is_ahead(row[0], further[0]))
    return tuple([other for way, other in rows])

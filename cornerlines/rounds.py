"""Round a corner of paths: what it is linked to, in order."""

from cornerlines.links import links_of
from cornerlines.steps import step_of
from cornerlines.turns import in_turn, is_ahead


def round_of(paths, corner):
    """The other ends of the links round the corner, gone against the clock from the right on."""
    others = [other for link in links_of(paths) if corner in link for other in link if other != corner]
    return round_by(corner, others)


def round_by(corner, others):
    """These other corners, gone round the corner against the clock from the right on."""
    return tuple(in_turn(others, lambda one, other: is_ahead(step_of((corner, one)), step_of((corner, other)))))

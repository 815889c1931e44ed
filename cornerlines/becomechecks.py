"""Whether something is the paper of what becomes of a link."""

from cornerlines.becoming import becoming
from cornerlines.papers import is_just


def becoming_holds(corners, one, other, thing):
    """Whether this is the paper of the link gone from the one corner to the other one."""
    return is_just(thing, becoming(corners, one, other))

"""A paper of what becomes of a link when it is done again and again."""

from cornerlines.bends import bend
from cornerlines.links import halves_of


def becoming(corners, one, other):
    """A paper of the link gone from the one corner to the other one: stays, or bends with one of each part."""
    path = bend(corners, one, other)
    if path == (one, other):
        return ("stays",)
    return ("bends", path, tuple([becoming(corners, *half) for half in halves_of(path)]))

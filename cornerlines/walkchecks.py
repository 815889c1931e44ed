"""Whether something is just all walks of paths."""

from cornerlines.papers import is_just
from cornerlines.walks import walks_of


def walks_holds(paths, thing):
    """Whether this is just all walks of the paths, rising."""
    return is_just(thing, walks_of(paths))

"""Whether something is the paper of the sides of two paths and shows no pass."""

from cornerlines.papers import is_just
from cornerlines.sides import is_pass, sides_paper


def sides_holds(one, other, thing):
    """Whether this is the paper of the two paths' sides, and no stretch of it is a pass."""
    if not is_just(thing, sides_paper(one, other)):
        return False
    return not any(is_pass(first, last) for i, j, first, last in thing)

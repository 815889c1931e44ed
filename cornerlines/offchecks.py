"""Whether something is a paper that a path lies no farther off a line."""

from cornerlines.offs import way_off
from cornerlines.shares import is_share
from cornerlines.wholes import are_wholes, is_less


def is_off(thing):
    """Whether this is (n, d), n from 0 on, d from 1 on."""
    return are_wholes(thing, 2) and thing[0] >= 0 and thing[1] >= 1


def off_holds(grain, line, path, off, thing):
    """Whether this is a paper that the path's off from the line is at most this."""
    if not is_off(off) or not isinstance(thing, tuple) or len(thing) != len(path):
        return False
    return all(is_within(grain, line, corner, off, part) for corner, part in zip(path, thing))


def is_within(grain, line, corner, off, thing):
    """Whether this is a share at which the line is no farther from the corner."""
    if not are_wholes(thing, 2) or not is_share(*thing):
        return False
    return not is_less(off, way_off(grain, line, corner, thing))

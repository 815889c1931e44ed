"""That nothing wants a corner: a paper of it, and whether something is one."""

from cornerlines.commonchecks import apart_holds, meets_at
from cornerlines.crossing import common_paper
from cornerlines.lines import corner_of
from cornerlines.spots import corner_at
from cornerlines.steps import side_of
from cornerlines.wants import corners_of, pairs_below


def unwanted_paper(grain, lines, corner):
    """A paper that nothing wants the corner; None where something does."""
    if corner in corners_of(grain, lines):
        return None
    return tuple([pair_paper(lines[k], lines[l]) for k, l in pairs_below(len(lines))])


def unwanted_holds(grain, lines, corner, thing):
    """Whether this is a paper that nothing wants the corner."""
    pairs = pairs_below(len(lines))
    if not isinstance(thing, tuple) or len(thing) != len(pairs):
        return False
    if any(ends_in(grain, line, corner) for line in lines):
        return False
    return all(
        pair_holds(grain, lines[k], lines[l], corner, part) for (k, l), part in zip(pairs, thing)
    )


def pair_paper(one, other):
    """The part of a paper that speaks of these two lines."""
    if are_along(one, other):
        return ("along",)
    return common_paper(one, other)


def pair_holds(grain, one, other, corner, thing):
    """Whether this shows that no crossing of these two lines lies in the corner's cell."""
    if thing == ("along",):
        return are_along(one, other)
    spot = meets_at(one, other, thing)
    if spot is None:
        return apart_holds(one, other, thing)
    return corner_at(grain, spot) != corner


def are_along(one, other):
    """Whether all four points lie on one straight line."""
    return all(side_of(one, point) == 0 for point in other)


def ends_in(grain, line, corner):
    """Whether an end of the line lies in the corner's cell."""
    return any(corner_of(grain, point) == corner for point in line)

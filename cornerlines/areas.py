"""Areas that walks go about, and what lies within one."""

from cornerlines.links import halves_round
from cornerlines.places import numbers_of, way_between
from cornerlines.steps import turn_of


def doubled_area(walks):
    """Twice the areas of all these walks together: (n, d), not in lowest terms."""
    total, parts = 0, 1
    for one, other in [half for walk in walks for half in halves_round(walk)]:
        (n, m, d), (u, v, e) = numbers_of(one), numbers_of(other)
        total = total * d * e + (n * v - u * m) * parts
        parts = parts * d * e
    return total, parts


def is_within(walk, place):
    """Whether the place lies within the walk; it lies on no half of it, or none of the walk farther left."""
    crossed = [half for half in halves_round(walk) if lies_across(half, place)]
    return len(crossed) % 2 == 1


def lies_across(half, place):
    """Whether a way from the place straight to the left goes over the half; what ends at its height lies below it."""
    one, other = [way_between(place, end) for end in half]
    if (one[1] > 0) == (other[1] > 0):
        return False
    return turn_of(one, other) > 0 if one[1] > 0 else turn_of(one, other) < 0

"""Spots: places in lowest terms, and the corner that is nearest to one."""

from cornerlines.wholes import are_wholes, greatest_parting, nearest


def is_spot(thing):
    """Whether this is (n, m, d) in lowest terms, d from 1 on."""
    if not are_wholes(thing, 3):
        return False
    n, m, d = thing
    return d >= 1 and greatest_parting(greatest_parting(n, m), d) == 1


def spot_of(n, m, d):
    """The spot at n / d, m / d; d is not 0."""
    part = greatest_parting(greatest_parting(n, m), d)
    if d < 0:
        part = -part
    return n // part, m // part, d // part


def corner_at(grain, spot):
    """The corner in whose cell the spot lies."""
    n, m, d = spot
    return nearest(n, d * grain), nearest(m, d * grain)

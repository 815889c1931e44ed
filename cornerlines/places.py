"""Places, corners and spots alike: where they lie of one another."""

from cornerlines.steps import turn_of


def numbers_of(place):
    """(n, m, d) of a corner or a spot: it lies at n / d, m / d."""
    return place if len(place) == 3 else (*place, 1)


def way_between(one, other):
    """A step, in whole numbers, that goes straight from the one place towards the other one."""
    (n, m, d), (u, v, e) = numbers_of(one), numbers_of(other)
    return u * d - n * e, v * d - m * e


def lies_on(link, place):
    """Whether the place lies straight between these two."""
    (x, y), (u, v) = [way_between(place, end) for end in link]
    return turn_of((x, y), (u, v)) == 0 and x * u + y * v < 0

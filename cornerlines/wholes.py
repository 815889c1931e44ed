"""Whole numbers: what is one, and what several modules reckon with them."""


def is_whole(thing):
    """Whether this is an int that is no truth."""
    return isinstance(thing, int) and not isinstance(thing, bool)


def are_wholes(thing, many):
    """Whether this is a tuple of just so many whole numbers."""
    return isinstance(thing, tuple) and len(thing) == many and all(is_whole(part) for part in thing)


def greatest_parting(n, m):
    """The greatest number that parts both; 0 where both are 0."""
    n, m = abs(n), abs(m)
    while m > 0:
        n, m = m, n % m
    return n


def lowest(n, d):
    """n / d, d from 1 on, as (n, d) in lowest terms."""
    part = greatest_parting(n, d)
    return n // part, d // part


def nearest(n, d):
    """The whole number i with n / d from i - 1/2, which belongs to it, to i + 1/2; d is from 1 on."""
    return (2 * n + d) // (2 * d)


def is_less(one, other):
    """Whether n / d, d from 1 on, of the one is less than that of the other one."""
    return one[0] * other[1] < other[0] * one[1]


def greater_of(one, other):
    """The greater one of two n / d, d from 1 on."""
    return other if is_less(one, other) else one


def lesser_of(one, other):
    """The lesser one of two n / d, d from 1 on."""
    return other if is_less(other, one) else one

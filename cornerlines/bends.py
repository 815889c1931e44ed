"""What one link becomes when it is done again."""

from cornerlines.paths import path_of


def bend(corners, one, other):
    """The path, by the corners and the grain 1, of the line from the one corner to the other one."""
    line = (one, other)
    between = [corner for corner in boxed(corners, one, other) if corner not in line]
    return (one, *path_of(1, line, between), other)


def boxed(corners, one, other):
    """The corners in the least upright box about these two: the line between them meets no other cell."""
    (left, right), (low, high) = [sorted(pair) for pair in zip(one, other)]
    return [(i, j) for i, j in corners if left <= i <= right and low <= j <= high]

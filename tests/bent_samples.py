"""Paths that several tests use."""

from random import Random

# Ways along the links of a plane of three-cornered lands.
WAYS = ((1, 0), (1, 1), (0, 1), (-1, 0), (-1, -1), (0, -1))


def some_path(chance, wide, long):
    """A path of at most so many corners, along links of one plane, no corner of it beyond 0 and wide."""
    path = [(chance.randrange(wide), chance.randrange(wide))]
    while len(path) < long:
        i, j = path[-1]
        near = [(i + x, j + y) for x, y in WAYS if 0 <= i + x < wide and 0 <= j + y < wide]
        near = [corner for corner in near if corner not in path]
        if not near:
            break
        path.append(chance.choice(near))
    return tuple(path)


def some_paths(many, wide, long, seed):
    """Paths, plane together, the same ones each time."""
    chance = Random(seed)
    return tuple(some_path(chance, wide, chance.randint(1, long)) for k in range(many))


def sheared(paths, rows):
    """The paths with each corner elsewhere, so that straight lines stay straight."""
    (a, b, i), (c, d, j) = rows
    return tuple(tuple((a * x + b * y + i, c * x + d * y + j) for x, y in path) for path in paths)


QUARTER = ((0, -1, 0), (1, 0, 0))
MIRROR = ((-1, 0, 0), (0, 1, 0))
MOVED = ((1, 0, 17), (0, 1, -1000))
SHEARS = (
    ((1, 0, 0), (0, 1, 0)), QUARTER, MIRROR, MOVED, ((3, -7, 5), (2, 5, -4)), ((1, 5, 0), (0, 1, 0)),
    ((90000, 90001, -10 ** 6), (-90001, 90002, 999)),
)


def along_a_row(many):
    """A path of so many corners in one row."""
    return tuple((k, 0) for k in range(many))


def gone_back(paths):
    """Each of the paths from behind."""
    return tuple(path[::-1] for path in paths)


def chain(many):
    """(corners, paths) of one link that is done again so many times, each time with just one corner more."""
    near, far = (0, 0), (1000, 401)
    corners = [near, far]
    while len(corners) < many + 2:
        far = next_in_chain(far)
        corners.append(far)
    return tuple(sorted(corners)), ((near, corners[1]),)


def next_in_chain(far):
    """The farthest corner above the line from (0, 0), met by it so high that no lesser line meets it."""
    x, y = far
    for i in range(x - 1, 0, -1):
        j = (2 * y * i + x) // (2 * x)
        if 5 * (x * j - y * i) > 2 * x:
            return i, j
    raise ValueError("the chain is too long")

"""Plane paths, and lines, with lands within one another, that several tests use."""

from random import Random

from bent_samples import SHEARS, sheared, some_paths
from samples import MILLION, some_lines


def square(i, j, wide):
    """Two paths that make a square together."""
    far, high = i + wide, j + wide
    return ((i, j), (far, j), (far, high)), ((i, j), (i, high), (far, high))


def square_lines(x, y, wide):
    """The four sides of a square."""
    ends = ((x, y), (x + wide, y), (x + wide, y + wide), (x, y + wide))
    return tuple(zip(ends, ends[1:] + ends[:1]))


BOX = square(0, 0, 10)
# Each with how many walks and lands it has.
PLANES = (
    ((), 0, 1),
    ((((0, 0),),), 0, 1),
    ((((0, 0),), ((5, 5),), ((0, 0),)), 0, 1),
    ((((0, 0), (4, 1)),), 1, 1),
    # Trees.
    ((((0, 0), (2, 2), (4, 0)),), 1, 1),
    ((((0, 0), (2, 2), (4, 0)), ((2, 2), (2, 4)), ((4, 0), (4, 1))), 1, 1),
    ((((0, 0), (4, 1)), ((0, 1), (4, 2))), 2, 1),
    # Squares: alone, by paths from behind, with a link across, with trees within and without.
    (BOX, 2, 2),
    ((BOX[0][::-1], BOX[1]), 2, 2),
    (BOX + BOX, 2, 2),
    (BOX + (((0, 0), (10, 10)),), 3, 3),
    (BOX + (((0, 0), (3, 4), (5, 5)), ((3, 4), (2, 4)), ((10, 0), (12, 0))), 2, 2),
    (BOX + (((0, 0), (5, 5)), ((5, 5), (10, 10)), ((5, 5), (10, 0))), 4, 4),
    # Parts that meet at one corner.
    (BOX + square(10, 10, 4), 3, 3),
    (BOX + (((10, 10), (12, 10)), ((10, 10), (10, 12)), ((12, 10), (10, 12))), 3, 3),
    (BOX + (((0, 0), (3, 1), (1, 3)), ((1, 3), (0, 0))), 3, 3),
    # Parts within one another; dots within and without.
    (BOX + square(2, 2, 6), 4, 3),
    (BOX + square(2, 2, 6) + square(4, 4, 2) + (((5, 5),), ((3, 3),), ((1, 1),), ((-1, 5),)), 6, 4),
    (BOX + square(1, 1, 3) + square(6, 1, 3) + (((2, 2),), ((2, 3),), ((5, 5),), ((1, 6), (9, 6))), 7, 4),
    (BOX + square(20, 0, 10) + square(22, 2, 2) + square(26, 2, 2), 8, 5),
    (BOX + square(2, 2, 6) + (((2, 2), (8, 8)), ((3, 4), (3, 5)), ((5, 4), (6, 5)), ((4, 3),), ((1, 4),)), 7, 4),
    # A part that lies between the arms of another one, but not within it.
    ((((0, 9), (0, 0), (9, 0), (9, 9)), ((4, 4), (5, 5)), ((4, 8),)), 2, 1),
    # A part beside a land that isn't convex.
    ((((0, 0), (9, 0), (9, 9)), ((0, 0), (0, 9), (2, 9)), ((2, 9), (7, 2), (9, 9)), ((6, 6), (6, 7)), ((1, 1),)), 3, 2),
)


def nested(deep, far):
    """So many squares within one another, told by two paths each, of which the outermost one is so wide either way."""
    paths = ()
    for k in range(deep):
        paths += square(k - far, k - far, 2 * (far - k))
    return paths


def grid(many, step, start):
    """So many paths along and as many up, so far from one another, of many corners each, that lie on all of them."""
    numbers = [start + step * k for k in range(many)]
    along = tuple(tuple((i, j) for i in numbers) for j in numbers)
    return along + tuple(tuple((i, j) for j in numbers) for i in numbers)


def long_grid(step, start):
    """Six paths along and six up, of sixty corners each."""
    numbers = [start + step * k for k in range(60)]
    some = numbers[3::9][:6]
    along = tuple(tuple((i, j) for i in numbers) for j in some)
    return along + tuple(tuple((i, j) for j in numbers) for i in some)


def grid_lines(many, far):
    """So many lines along and as many up, that all cross, far beyond one another."""
    numbers = [far * (2 * k + 1 - many) // (2 * many) for k in range(many)]
    along = tuple(((-far, y), (far, y)) for y in numbers)
    return along + tuple(((x, -far), (x, far)) for x in numbers)


def long_lines(many, far, seed):
    """So many lines from one side of a square to the other one, by turns along and up."""
    chance = Random(seed)
    lines = []
    for k in range(many):
        low, high = chance.randint(-far, far), chance.randint(-far, far)
        lines.append(((-far, low), (far, high)) if k % 2 else ((low, -far), (high, far)))
    return tuple(lines)


def near_lines(many, far, seed):
    """So many lines, some of whose ends are alike, or lie on others."""
    chance = Random(seed)
    ends = [point for line in some_lines(many // 2 + 2, far, seed) for point in line]
    lines = []
    while len(lines) < many:
        a = chance.choice(ends)
        b = chance.choice(ends) if chance.random() < 0.6 else (chance.randint(-far, far), chance.randint(-far, far))
        if a != b:
            lines.append((a, b))
            ends.append(((a[0] + b[0]) // 2, (a[1] + b[1]) // 2))
    return tuple(lines)


def any_planes():
    """Paths of one plane here and there, and elsewhere."""
    for seed in range(40):
        for wide, long in ((3, 6), (5, 12), (9, 20), (16, 7)):
            paths = some_paths(1 + seed % 9, wide, long, seed)
            yield paths
            yield sheared(paths, SHEARS[seed % len(SHEARS)])


def twelve_lines():
    """(grain, lines), of twelve lines each."""
    for grain, far in ((1, 3), (2, 5), (10, 40), (1000, MILLION), (1, MILLION)):
        yield grain, tuple(some_lines(12, far, grain))
        yield grain, long_lines(12, far, grain)


def some_drawings():
    """(grain, lines), of five to seven lines near one another."""
    for seed in range(16):
        for many, far, grain in ((5, 3, 1), (6, 5, 2), (7, 9, 4), (6, 40, 10), (7, 30, 6)):
            yield grain, tuple(some_lines(many, far, seed))
            yield grain, near_lines(many, far, seed)


# Lines by the grain 10, with how many straight lands they have.
STRAIGHTS = (
    ((), 1),
    ((((0, 0), (57, 33)),), 1),
    ((((0, 0), (40, 40)), ((0, 40), (40, 0))), 1),
    (square_lines(0, 0, 40), 2),
    (square_lines(0, 0, 100) + square_lines(20, 20, 60), 3),
    (square_lines(0, 0, 100) + square_lines(20, 20, 60) + (((40, 40), (50, 45)), ((-9, -9), (-9, 9))), 3),
    # A line between two squares.
    (square_lines(0, 0, 40) + square_lines(60, 0, 40) + (((40, 20), (60, 20)),), 3),
    (square_lines(0, 0, 40) + square_lines(60, 0, 40) + (((20, 20), (80, 20)),), 3),
    (square_lines(0, 0, 40) + square_lines(60, 0, 40) + (((0, 20), (100, 20)),), 5),
    # Along one another.
    (square_lines(0, 0, 40) + (((-20, 0), (20, 0)), ((40, 40), (40, 10)), ((0, 40), (40, 40))), 2),
    (square_lines(0, 0, 40) + square_lines(40, 0, 40) + square_lines(0, 40, 40), 4),
    (grid_lines(2, 100), 2),
    (grid_lines(3, 100), 5),
    (grid_lines(6, MILLION), 26),
    # Lands so small that they vanish.
    ((((0, 0), (3, 1)), ((3, 1), (1, 3)), ((1, 3), (0, 0))), 2),
    ((((0, 0), (90, 3)), ((90, 3), (0, 4)), ((0, 4), (0, 0))), 2),
    # Very near knots.
    ((((-100, -1), (100, 0)), ((-100, 0), (99, -1)), ((-99, -2), (100, 1))), 2),
)

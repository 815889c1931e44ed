"""Lines and pairs of lines that several tests use."""

from random import Random

from reference import turned

MILLION = 10 ** 6
SMALL = [(x, y) for x in range(3) for y in range(3)]
SMALL_LINES = [(a, b) for a in SMALL for b in SMALL if a != b]
# Each with what they have in common.
PAIRS = (
    # Nothing.
    (((0, 0), (1, 0)), ((0, 1), (1, 1)), ()),
    (((0, 0), (4, 0)), ((1, 1), (9, 2)), ()),
    (((0, 0), (4, 0)), ((5, -1), (5, 1)), ()),
    (((0, 0), (4, 4)), ((5, 5), (6, 6)), ()),
    (((0, 0), (4, 0)), ((-3, 0), (-1, 0)), ()),
    (((0, 0), (0, 4)), ((0, 5), (0, 6)), ()),
    (((0, 0), (4, 4)), ((0, 1), (4, 5)), ()),
    (((0, 0), (4, 0)), ((2, 1), (2, 2)), ()),
    (((0, 0), (3, 3)), ((4, 0), (3, 2)), ()),
    # One point, within both.
    (((0, 0), (4, 4)), ((0, 4), (4, 0)), ((2, 2, 1),)),
    (((0, 0), (1, 1)), ((0, 1), (1, 0)), ((1, 1, 2),)),
    (((0, 0), (3, 1)), ((0, 1), (3, 0)), ((3, 1, 2),)),
    (((-2, 0), (1, 0)), ((0, -1), (-1, 2)), ((-1, 0, 3),)),
    (((0, 0), (5, 2)), ((0, 2), (5, 1)), ((10, 4, 3),)),
    # At an end of one.
    (((0, 0), (4, 0)), ((2, 0), (2, 5)), ((2, 0, 1),)),
    (((0, 0), (4, 0)), ((3, 7), (1, 0)), ((1, 0, 1),)),
    (((2, 0), (2, 5)), ((0, 0), (4, 0)), ((2, 0, 1),)),
    # At an end of both.
    (((0, 0), (4, 0)), ((4, 0), (4, 5)), ((4, 0, 1),)),
    (((0, 0), (4, 0)), ((-1, 5), (0, 0)), ((0, 0, 1),)),
    # Along one straight line, at just one point.
    (((0, 0), (4, 4)), ((4, 4), (6, 6)), ((4, 4, 1),)),
    (((0, 0), (4, 4)), ((-1, -1), (0, 0)), ((0, 0, 1),)),
    (((0, 0), (0, 4)), ((0, 9), (0, 4)), ((0, 4, 1),)),
    # A stretch: a part, a line within another one, alike ones.
    (((0, 0), (4, 4)), ((1, 1), (6, 6)), ((1, 1, 1), (4, 4, 1))),
    (((0, 0), (4, 0)), ((3, 0), (1, 0)), ((1, 0, 1), (3, 0, 1))),
    (((0, 0), (0, 4)), ((0, 9), (0, -9)), ((0, 0, 1), (0, 4, 1))),
    (((0, 4), (4, 0)), ((4, 0), (0, 4)), ((0, 4, 1), (4, 0, 1))),
    (((0, 4), (4, 0)), ((0, 4), (4, 0)), ((0, 4, 1), (4, 0, 1))),
    (((0, 0), (6, 4)), ((0, 0), (3, 2)), ((0, 0, 1), (3, 2, 1))),
    # At the bounds.
    (((-MILLION, -MILLION), (MILLION, MILLION)), ((-MILLION, MILLION), (MILLION, -MILLION)), ((0, 0, 1),)),
    (((-MILLION, 0), (MILLION, 1)), ((-MILLION, 1), (MILLION, 0)), ((0, 1, 2),)),
    (((-MILLION, -MILLION), (MILLION, MILLION)), ((-MILLION, 1 - MILLION), (MILLION - 1, MILLION)), ()),
    (((-MILLION, 0), (MILLION, 1)), ((-MILLION, 1), (MILLION, 2)), ()),
    (((-MILLION, -1), (MILLION, 0)), ((-MILLION, -2), (MILLION - 1, -1)), ()),
)


def some_lines(many, far, seed):
    """Lines here and there, the same ones each time."""
    chance = Random(seed)
    lines = []
    while len(lines) < many:
        line = tuple((chance.randint(-far, far), chance.randint(-far, far)) for k in (0, 1))
        if line[0] != line[1]:
            lines.append(line)
    return lines


def all_ways(one, other):
    """Both lines in either turn, each from behind too."""
    both = []
    for a, b in ((one, other), (other, one)):
        both += [(a, b), (turned(a), b), (a, turned(b)), (turned(a), turned(b))]
    return both


# Lines by the grain 10 that lie across, beside, along and behind one another.
DRAWINGS = (
    (),
    (((0, 0), (57, 33)),),
    (((0, 0), (57, 33)), ((5, 40), (50, -10))),
    (((0, 0), (40, 40)), ((0, 40), (40, 0)), ((0, 23), (40, 23))),
    (((0, 0), (40, 0)), ((40, 0), (80, 0))),
    (((0, 0), (40, 0)), ((10, 0), (80, 0)), ((0, 0), (40, 0))),
    (((0, 0), (40, 0)), ((50, 0), (80, 0)), ((20, -20), (20, 0))),
    (((5, 5), (-5, -5)), ((-5, 5), (5, -5)), ((-15, 0), (15, 1))),
    (((0, 0), (0, 90)), ((-30, 45), (30, 46)), ((-30, 5), (31, 15)), ((1, 0), (1, 90))),
)
GRAINS = (1, 2, 3, 10, 1000)


def turned_round(lines):
    """The lines in another order, each from behind."""
    return tuple(turned(line) for line in reversed(lines))


def corners_about(far):
    """All corners about (0, 0), rising."""
    return tuple((i, j) for i in range(-far, far + 1) for j in range(-far, far + 1))

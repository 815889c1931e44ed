"""The rims of cells, told twofold, so that they are whole numbers of points."""


def rims_of(grain, number):
    """The lesser and the greater end of the cells with this number, twofold."""
    return (2 * number - 1) * grain, (2 * number + 1) * grain


def greatest_in(grain, corner, p, q):
    """The greatest of p * X + q * Y over the corner's cell and its rim, twofold."""
    i, j = corner
    return max([p * x + q * y for x in rims_of(grain, i) for y in rims_of(grain, j)])


def keeps_below(grain, corner, p, q, r):
    """Whether p * X + q * Y comes to r nowhere in the corner's cell, twofold; not both are 0."""
    greatest = greatest_in(grain, corner, p, q)
    # The greatest lies on a greater side, which the cell hasn't, where p or q is above 0.
    return greatest < r or (greatest == r and (p > 0 or q > 0))

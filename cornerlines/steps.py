"""Steps: how far lines go by each number, and what lies to which side of them."""


def step_of(line):
    """How far the line goes by each number."""
    (x, y), (far_x, far_y) = line
    return far_x - x, far_y - y


def turn_of(one, other):
    """Above 0 where the other step turns to the left of the one, 0 where both keep to one straight line."""
    return one[0] * other[1] - one[1] * other[0]


def side_of(line, point):
    """Above 0 where the point lies at the left of the line, 0 where on its straight line."""
    return turn_of(step_of(line), step_of((line[0], point)))


def ways_across(line):
    """The two ways (p, q) straight across a line."""
    dx, dy = step_of(line)
    return (-dy, dx), (dy, -dx)


def greatest_by(line, p, q):
    """The greatest of p * x + q * y at the line's points."""
    return max([p * x + q * y for x, y in line])


def least_by(line, p, q):
    """The least of p * x + q * y at the line's points."""
    return min([p * x + q * y for x, y in line])

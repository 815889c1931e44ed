"""Shares of a line: how much of the way from a to b lies behind a spot."""

from cornerlines.spots import spot_of
from cornerlines.steps import step_of
from cornerlines.wholes import lowest


def is_share(k, m):
    """Whether k / m, whole numbers, is a share: m from 1 on, k from 0 to m."""
    return m >= 1 and 0 <= k <= m


def spot_at(line, k, m):
    """The spot at the share k / m of the line."""
    x, y = line[0]
    dx, dy = step_of(line)
    return spot_of(m * x + k * dx, m * y + k * dy, m)


def share_of(line, spot):
    """The share (k, m) of the line at which a spot of it lies."""
    x, y = line[0]
    dx, dy = step_of(line)
    n, m, d = spot
    return lowest((n - d * x) * dx + (m - d * y) * dy, d * (dx * dx + dy * dy))

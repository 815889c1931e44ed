"""Ways round a place, gone against the clock."""

from cornerlines.steps import turn_of


def is_ahead(one, other):
    """Whether, gone against the clock from the right on, the one way is come to ahead of the other one."""
    if is_lower(one) != is_lower(other):
        return is_lower(other)
    return turn_of(one, other) > 0


def is_lower(way):
    """Whether the way goes straight to the left or downward, so that it is come to in the latter half."""
    x, y = way
    return y < 0 or (y == 0 and x < 0)


def in_turn(rows, goes_ahead):
    """The rows, each behind those that go ahead of it; as they were where neither does."""
    return sorted(rows, key=lambda row: len([other for other in rows if goes_ahead(other, row)]))

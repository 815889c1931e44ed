"""Drawings of lines that have names or numbers, and what is otherwise in one than in another."""

from cornerlines.paths import drawn


def drawn_by(grain, named):
    """(corners, paths by names) of the drawing of lines by names, or numbers, in this order."""
    corners, paths = drawn(grain, tuple(named.values()))
    return corners, dict(zip(named, paths))


def changed(ahead, now):
    """The names that have something in both, and not the same, rising."""
    return tuple([name for name in sorted(now) if name in ahead and now[name] != ahead[name]])


def missing_in(there, parts):
    """Those of the parts that are not there, as they stand."""
    return tuple([part for part in parts if part not in there])

"""A paper of the path of a line by some corners, and whether something is one."""

from cornerlines.cellchecks import meets_holds, met_holds
from cornerlines.cells import meets_paper
from cornerlines.paths import in_order, is_path


def path_paper(grain, line, corners):
    """A paper of the path: for each of the corners whether the line meets its cell."""
    return tuple([meets_paper(grain, line, corner) for corner in corners])


def path_holds(grain, line, corners, path, thing):
    """Whether this is a paper by which the line has this path; path is of anything, too."""
    if path != () and not is_path(path):
        return False
    if not isinstance(thing, tuple) or len(thing) != len(corners):
        return False
    rows = list(zip(corners, thing))
    if not all(meets_holds(grain, line, corner, part) for corner, part in rows):
        return False
    return path == in_order(line, [corner for corner, part in rows if met_holds(grain, line, corner, part)])

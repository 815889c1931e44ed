"""Findings: what is said to be so, with what shows it, and whether it holds."""

from cornerlines.commonchecks import common_holds
from cornerlines.lines import MOST_LINES, are_lines, is_grain, is_line, is_point
from cornerlines.offchecks import off_holds
from cornerlines.papers import is_just
from cornerlines.pathchecks import path_holds
from cornerlines.paths import is_path
from cornerlines.planes import trouble_of
from cornerlines.sidechecks import sides_holds
from cornerlines.sources import sources
from cornerlines.walkchecks import walks_holds
from cornerlines.wantchecks import unwanted_holds

MOST_PATHS = 12
MOST_PATH_CORNERS = 600


def common_found(parts):
    """Whether this is a paper of two lines."""
    one, other, paper = parts
    return is_line(one) and is_line(other) and common_holds(one, other, paper)


def unwanted_found(parts):
    """Whether nothing wants a corner."""
    grain, lines, corner, paper = parts
    return is_drawing(grain, lines) and is_point(corner) and unwanted_holds(grain, lines, corner, paper)


def path_found(parts):
    """Whether a line has this path by these corners."""
    grain, line, corners, path, paper = parts
    if not is_grain(grain) or not is_line(line) or not are_rising(corners):
        return False
    return (path == () or are_paths((path,))) and path_holds(grain, line, corners, path, paper)


def off_found(parts):
    """Whether a path is at most so far off a line."""
    grain, line, path, off, paper = parts
    if not is_grain(grain) or not is_line(line) or not are_paths((path,)):
        return False
    return off_holds(grain, line, path, off, paper)


def plane_found(parts):
    """Whether these are plane paths."""
    paths = parts[0]
    return are_paths(paths) and trouble_of(paths) is None


def sides_found(parts):
    """Whether two paths, plane together, have these sides and no pass."""
    one, other, paper = parts
    return plane_found([(one, other)]) and sides_holds(one, other, paper)


def walks_found(parts):
    """Whether plane paths have just these walks."""
    paths, walks = parts
    return plane_found([paths]) and walks_holds(paths, walks)


def comes_found(parts):
    """Whether the bent lands of these lines come of these straight ones."""
    grain, lines, told = parts
    return is_drawing(grain, lines) and is_just(told, sources(grain, lines))


# How many parts stand behind the word of each kind, and whether they hold.
MANY = {"common": 3, "unwanted": 4, "path": 5, "off": 5, "plane": 1, "sides": 3, "walks": 2, "comes": 3}
KINDS = {
    "common": common_found, "unwanted": unwanted_found, "path": path_found, "off": off_found, "plane": plane_found,
    "sides": sides_found, "walks": walks_found, "comes": comes_found,
}


def finding_holds(thing):
    """Whether this is a finding that holds."""
    if not isinstance(thing, tuple) or thing == ():
        return False
    word, *parts = thing
    if not isinstance(word, str) or word not in MANY or len(parts) != MANY[word]:
        return False
    holds = KINDS[word]
    return holds(parts)


def is_drawing(grain, lines):
    """Whether these are a grain and lines, not too many."""
    return is_grain(grain) and are_lines(lines) and len(lines) <= MOST_LINES


def are_rising(thing):
    """Whether this is a tuple of corners, rising."""
    if not isinstance(thing, tuple) or not all(is_point(part) for part in thing):
        return False
    return all(one < other for one, other in zip(thing, thing[1:]))


def are_paths(thing):
    """Whether this is a tuple of paths, not too many, of not too many corners."""
    if not isinstance(thing, tuple) or len(thing) > MOST_PATHS or not all(is_path(part) for part in thing):
        return False
    return sum([len(path) for path in thing]) <= MOST_PATH_CORNERS

"""Paths done again and again, until nothing comes between their corners any more."""

from cornerlines.bends import bend
from cornerlines.links import halves_of, links_of


def again(corners, paths):
    """The paths with each link become the path, by the corners, of the line from its one corner to the other one."""
    halves = sorted(set([half for path in paths for half in halves_of(path)]))
    bends = {half: bend(corners, *half) for half in halves}
    return tuple([bent(path, bends) for path in paths])


def doings(corners, paths):
    """The paths behind each time that something came, until nothing comes."""
    told = []
    done = again(corners, paths)
    while done != paths:
        told.append(done)
        paths, done = done, again(corners, done)
    return tuple(told)


def settled(corners, paths):
    """The paths where nothing comes between any more."""
    return (paths, *doings(corners, paths))[-1]


def unsettled(corners, paths):
    """None, or the first link that meets a cell not of its ends, with the first such corner."""
    for link in links_of(paths):
        between = bend(corners, *link)[1:-1]
        if between != ():
            return link, min(between)
    return None


def bent(path, bends):
    """The path with each of its links, gone in its way, become what it bends to."""
    corners = list(path[:1])
    for half in halves_of(path):
        corners.extend(bends[half][1:])
    return tuple(corners)

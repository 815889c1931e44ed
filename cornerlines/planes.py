"""Whether paths are plane: what the first trouble is, if any."""

from cornerlines.links import links_of
from cornerlines.steps import side_of


def trouble_of(paths):
    """None, or the first of what keeps the paths from being plane: on, else cross."""
    links = links_of(paths)
    return trouble_on(paths, links) or trouble_across(links)


def trouble_on(paths, links):
    """("on", corner, link) of the first corner on a link that doesn't end there, or None."""
    for corner in sorted(set([corner for path in paths for corner in path])):
        for link in links:
            # Points rise along a link, so one within it lies between its ends as tuples do.
            if link[0] >= corner:
                break
            if corner < link[1] and side_of(link, corner) == 0:
                return ("on", corner, link)
    return None


def trouble_across(links):
    """("cross", link, link) of the first two links that cross, or None; no corner lies within one."""
    for k, one in enumerate(links):
        for other in links[k + 1:]:
            if other[0] >= one[1]:
                break
            if are_across(one, other):
                return ("cross", one, other)
    return None


def are_across(one, other):
    """Whether each link has the other one's ends on its two sides."""
    return parts(one, other) and parts(other, one)


def parts(link, other):
    """Whether the other link's ends lie on the two sides of the link."""
    return side_of(link, other[0]) * side_of(link, other[1]) < 0

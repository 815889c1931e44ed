"""Links: what joins the neighbours in paths."""


def links_of(paths):
    """The links of the paths, rising, the lesser corner of each first."""
    return tuple(sorted(set([link_of(*half) for path in paths for half in halves_of(path)])))


def halves_of(path):
    """Its links, gone in the path's way: each corner with the next one."""
    return tuple(zip(path, path[1:]))


def halves_round(walk):
    """The halves of a walk: each place with the next one, the last one with the first."""
    return halves_of(walk + walk[:1])


def link_of(one, other):
    """The link of two corners."""
    return (one, other) if one < other else (other, one)

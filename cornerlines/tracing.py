"""Walks along links between places of any kind."""

from cornerlines.links import halves_round
from cornerlines.rounds import round_by


def walks_by(links):
    """All walks of plane links, rising, each told by its places from its least half on."""
    behind = halves_behind(links)
    seen = set()
    walks = []
    # The first half that no walk has is the least one of its walk.
    for half in sorted(behind):
        if half not in seen:
            walk = walk_from(behind, half)
            for gone in halves_round(walk):
                seen.add(gone)
            walks.append(walk)
    return tuple(walks)


def walk_from(behind, first):
    """The places of the walk that goes on from this half."""
    walk = [first[0]]
    half = behind[first]
    while half != first:
        walk.append(half[0])
        half = behind[half]
    return tuple(walk)


def halves_behind(links):
    """The half that comes behind each half of the links."""
    rounds = rounds_by(links)
    behind = {}
    for place, others in rounds.items():
        for k, other in enumerate(others):
            behind[(other, place)] = (place, others[k - 1])
    return behind


def rounds_by(links):
    """What each place is linked to, gone round it against the clock from the right on."""
    others = {}
    for one, other in links:
        others.setdefault(one, []).append(other)
        others.setdefault(other, []).append(one)
    return {place: round_by(place, others[place]) for place in others}

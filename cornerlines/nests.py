"""Lands between walks: which rims and dots lie right in which border."""

from cornerlines.areas import doubled_area, is_within
from cornerlines.places import numbers_of
from cornerlines.wholes import is_less


def lands_by(walks, dots):
    """(border, rims, dots) of each land of these walks and dots, rising; the outer one's border is ()."""
    borders = [walk for walk in walks if is_border(walk)]
    rims = [walk for walk in walks if not is_border(walk)]
    held = [(least_about(borders, leftmost(rim)), rim) for rim in rims]
    dotted = [(least_about(borders, dot), dot) for dot in dots]
    return tuple([(border, held_by(border, held), held_by(border, dotted)) for border in ((), *borders)])


def is_border(walk):
    """Whether the walk goes round a land from without, against the clock."""
    return doubled_area((walk,))[0] > 0


def held_by(border, rows):
    """What this border holds, of (border, what it holds)."""
    return tuple([part for about, part in rows if about == border])


def least_about(borders, place):
    """The least of the borders within which the place lies; () where there is none."""
    least = ()
    for border in borders:
        if is_within(border, place) and (least == () or is_lesser(border, least)):
            least = border
    return least


def is_lesser(border, other):
    """Whether the border goes round less than the other one."""
    return is_less(doubled_area((border,)), doubled_area((other,)))


def leftmost(rim):
    """A place of the rim than which none of its part lies farther left, so that it lies within no border of its own."""
    found = rim[0]
    for place in rim:
        n, m, d = numbers_of(place)
        far, high, parts = numbers_of(found)
        if is_less((n, d), (far, parts)):
            found = place
    return found

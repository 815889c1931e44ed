"""What papers look like."""

from cornerlines.wholes import are_wholes


def is_paper(thing, word, many):
    """Whether this is a tuple of the word and behind it just so many whole numbers."""
    return isinstance(thing, tuple) and thing[:1] == (word,) and are_wholes(thing[1:], many)

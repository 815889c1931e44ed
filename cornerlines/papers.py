"""What papers look like."""

from cornerlines.wholes import are_wholes


def is_paper(thing, word, many):
    """Whether this is a tuple of the word and behind it just so many whole numbers."""
    return isinstance(thing, tuple) and thing[:1] == (word,) and are_wholes(thing[1:], many)


def is_just(thing, told):
    """Whether this is just what was told, which is of tuples, texts and whole numbers, at every depth."""
    pairs = [(thing, told)]
    while pairs:
        part, other = pairs.pop()
        if isinstance(other, tuple):
            if not isinstance(part, tuple) or len(part) != len(other):
                return False
            pairs.extend(list(zip(part, other)))
        elif isinstance(part, bool) or part != other:
            return False
    return True

"""Things of any kind, and what tests do with them."""

from copy import deepcopy

GREAT = 10 ** 40 - 1


def nested(depth, kind):
    """A thing so deep."""
    thing = 1
    for step in range(depth):
        thing = {"tuple": (thing,), "list": [thing], "dict": {"a": thing}}[kind]
    return thing


def anything():
    """Things that are no line, point, path or paper, made anew each time."""
    return [
        None, True, False, 0, 1, -1, GREAT, -GREAT, "", "a", "apart", "meets", "grain 1", "0 0",
        "x" * 4000, "\n" * 4000, [], {}, [0, 0], {0: 0}, {"a": 1}, [[0, 0], [1, 1]], [(0, 0), (1, 1)],
        {(0, 0): (1, 1)}, ("",), ("a", "b"), (None,), (None, None), (True,), ([],), ({},), ((),),
        ((), ()), (((),),), ("apart",), ("meets",), ("along",), ("misses",), (GREAT,), (1,) * 10000,
        ("apart", 1, 0), ("meets", 0, 1), tuple(range(10000)), [0] * 10000,
        nested(40, "tuple"), nested(40, "list"), nested(40, "dict"),
    ]


def spoilt(paper):
    """What comes of a paper where a part is left out, told twice or of another kind."""
    told = [list(paper), {0: paper}, (paper,), paper + (0,), paper + (None,), paper + paper[-1:]]
    for k, part in enumerate(paper):
        told.append(paper[:k] + paper[k + 1:])
        for other in (None, True, False, "1", "", "a", [part], (part,), {"a": part}, nested(40, "list")):
            if other is not part:
                told.append(paper[:k] + (other,) + paper[k + 1:])
    return told


def spoilt_within(paper):
    """What comes of a paper where one part, at any depth, is otherwise."""
    if isinstance(paper, str):
        words = ("stays", "bends", "left", "right", "end", "", paper + " ", paper.upper())
        yield from (word for word in words if word != paper)
    if isinstance(paper, int):
        yield from (paper + 1, paper - 1, -paper - 3, GREAT, str(paper), bool(paper))
    yield from (None, [paper], (paper,), {"a": paper}, True, nested(40, "tuple"))
    if isinstance(paper, tuple):
        yield from (list(paper), paper + (0,), paper + ((),), paper * 2 + (1,))
        for k, part in enumerate(paper):
            yield paper[:k] + paper[k + 1:]
            yield paper[:k + 1] + paper[k:]
            if k > 0 and paper[k - 1] != part:
                yield paper[:k - 1] + (part, paper[k - 1]) + paper[k + 1:]
            for other in spoilt_within(part):
                yield paper[:k] + (other,) + paper[k + 1:]


def is_plain(thing):
    """Whether this is of texts, whole numbers, truths, None and tuples of these alone."""
    if isinstance(thing, tuple):
        return all(is_plain(part) for part in thing)
    return thing is None or isinstance(thing, (str, int))


def keeps(test, call, *things):
    """What the call tells; it must tell it twice and leave what it is handed as it was."""
    before = deepcopy(things)
    told = call(*things)
    again = call(*things)
    test.assertEqual(repr(told), repr(again))
    test.assertEqual(repr(things), repr(before))
    test.assertTrue(is_plain(told))
    return told

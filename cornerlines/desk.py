"""A desk: a stand that is told what to do by rows of text."""

from cornerlines.asks import where
from cornerlines.errors import NoRow
from cornerlines.lands import land_area, lands_of
from cornerlines.offs import off_of
from cornerlines.settling import doings
from cornerlines.sides import passes
from cornerlines.stands import Stand
from cornerlines.texts import number_of, show_paths

GRAIN = 10
MOST = 1000000


def put_row(stand, words):
    """Lets a point stand."""
    stand.put(words[0], point_in(words[1:]))
    return "ok"


def move_row(stand, words):
    """Puts a point elsewhere."""
    stand.move(words[0], point_in(words[1:]))
    return "ok"


def drop_row(stand, words):
    """Takes a point away."""
    stand.drop(words[0])
    return "ok"


def join_row(stand, words):
    """Lets a line stand."""
    name, one, other = words
    stand.join(name, one, other)
    return "ok"


def cut_row(stand, words):
    """Takes a line away."""
    stand.cut(words[0])
    return "ok"


def back_row(stand, words):
    """Takes deeds back."""
    stand.back(bounded(words[0]))
    return "ok"


def path_row(stand, words):
    """Tells a line's path."""
    return show_paths((stand.path(words[0]),))


def corners_row(stand, words):
    """Tells all corners."""
    corners, paths = stand.drawing()
    return "none" if corners == () else show_paths((corners,))


def passes_row(stand, words):
    """Tells how often two lines' paths pass one another."""
    one, other = words
    if one == other:
        raise NoRow("both words are alike")
    return str(len(passes(stand.path(one), stand.path(other))))


def off_row(stand, words):
    """Tells how far a line's path lies off."""
    n, d = off_of(GRAIN, stand.line(words[0]), stand.path(words[0]))
    return f"{n} / {d}"


def settle_row(stand, words):
    """Tells how often the paths are done again until nothing comes."""
    corners, paths = stand.drawing()
    return str(len(doings(corners, paths)))


def lands_row(stand, words):
    """Tells how many lands there are, and twice the areas of all but the outer one."""
    corners, paths = stand.drawing()
    lands = lands_of(paths)
    numbers = [len(lands)] + [land_area(land) for land in lands[1:]]
    return " ".join([str(number) for number in numbers])


def where_row(stand, words):
    """Tells at, on or in what a place lies."""
    corners, paths = stand.drawing()
    kind, found = where(paths, GRAIN, (*point_in(words), 1))
    if kind == "land":
        return f"land {found}"
    ends = (found,) if kind == "corner" else found
    return f"{kind} " + " , ".join([f"{i} {j}" for i, j in ends])


def point_in(words):
    """The point that two words write."""
    x, y = [bounded(word) for word in words]
    return x, y


def bounded(word):
    """The number that a word writes; NoRow where it writes none, or one too great."""
    number = number_of(word)
    if number is None or abs(number) > MOST:
        raise NoRow("this word writes no number that may stand here")
    return number


def words_of(text):
    """The words of a row; NoRow where this is none."""
    if not isinstance(text, str) or "\n" in text:
        raise NoRow("this is no row")
    return text.split(" ")


# How many words stand behind the first one, and what it asks for.
MANY = {
    "put": 3, "move": 3, "drop": 1, "join": 3, "cut": 1, "back": 1, "path": 1, "corners": 0, "passes": 2, "off": 1,
    "settle": 0, "lands": 0, "where": 2,
}
ROWS = {
    "put": put_row, "move": move_row, "drop": drop_row, "join": join_row, "cut": cut_row, "back": back_row,
    "path": path_row, "corners": corners_row, "passes": passes_row, "off": off_row, "settle": settle_row,
    "lands": lands_row, "where": where_row,
}


class Desk:
    """A stand of the grain 10, and the rows that it is told."""

    def __init__(self):
        self.stand = Stand(GRAIN)

    def say(self, text):
        """Does what a row says; tells its answer."""
        word, *words = words_of(text)
        if word not in MANY or len(words) != MANY[word]:
            raise NoRow("no row has these words")
        row = ROWS[word]
        return row(self.stand, words)

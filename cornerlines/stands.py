"""A stand: points and lines come and go by names, and all can be taken back."""

from cornerlines.changes import changed, drawn_by
from cornerlines.errors import NoBack, NoLine, NoName, Taken, TooMany, Used
from cornerlines.lines import MOST_LINES
from cornerlines.paths import drawn, path_of
from cornerlines.wants import corners_of
from cornerlines.wholes import is_whole

LETTERS = "abcdefghijklmnopqrstuvwxyz"
LONGEST_NAME = 8
MOST_POINTS = 16


class Stand:
    """Points by names, and lines by names, each between two points."""

    def __init__(self, grain):
        self.grain = grain
        # The points and the lines behind each so many deeds.
        self.states = [({}, {})]
        self.ahead = self.states[0]

    def put(self, name, point):
        """Lets a point stand."""
        points, lines = self.states[-1]
        if not is_name(name):
            raise NoName("this is no name")
        if name in points:
            raise Taken("a point has this name")
        if len(points) >= MOST_POINTS:
            raise TooMany("no more points may stand")
        self.keep({**points, name: point}, lines)

    def move(self, name, point):
        """Puts a point elsewhere."""
        points, lines = self.states[-1]
        check_name(name, points)
        points = {**points, name: point}
        if any(points[one] == points[other] for one, other in lines.values()):
            raise NoLine("a line would have both points at one place")
        self.keep(points, lines)

    def drop(self, name):
        """Takes a point away at which no line ends."""
        points, lines = self.states[-1]
        check_name(name, points)
        for line, ends in lines.items():
            if name in ends:
                raise Used(line)
        self.keep(others_than(name, points), lines)

    def join(self, name, one, other):
        """Lets a line stand between two points."""
        points, lines = self.states[-1]
        if not is_name(name):
            raise NoName("this is no name")
        check_name(one, points)
        check_name(other, points)
        if name in lines:
            raise Taken("a line has this name")
        if points[one] == points[other]:
            raise NoLine("both points lie at one place")
        if len(lines) >= MOST_LINES:
            raise TooMany("no more lines may stand")
        self.keep(points, {**lines, name: (one, other)})

    def cut(self, name):
        """Takes a line away."""
        points, lines = self.states[-1]
        check_name(name, lines)
        self.keep(points, others_than(name, lines))

    def back(self, many):
        """Makes all what it was behind the first so many deeds."""
        if not is_whole(many) or not 0 <= many <= self.deeds():
            raise NoBack("there are not so many deeds")
        self.states = self.states[:many + 1]
        self.ahead = self.states[-1]

    def points(self):
        """(name, point) of each point, in the order they came."""
        return tuple(self.states[-1][0].items())

    def lines(self):
        """(name, one, other) of each line, in the order they came."""
        return tuple([(name, *ends) for name, ends in self.states[-1][1].items()])

    def deeds(self):
        """How many deeds were done and not taken back."""
        return len(self.states) - 1

    def drawing(self):
        """(corners, paths) of the lines, in order."""
        return drawn(self.grain, tuple(placed(self.states[-1]).values()))

    def line(self, name):
        """The line of this name."""
        lines = placed(self.states[-1])
        check_name(name, lines)
        return lines[name]

    def path(self, name):
        """The path of the line of this name."""
        corners = corners_of(self.grain, tuple(placed(self.states[-1]).values()))
        return path_of(self.grain, self.line(name), corners)

    def moved(self):
        """The names of lines that stood ahead of the last deed, too, and had another path, rising."""
        ahead, now = [drawn_by(self.grain, placed(state)) for state in (self.ahead, self.states[-1])]
        return changed(ahead[1], now[1])

    def keep(self, points, lines):
        """Does a deed: these points and lines stand from now on."""
        self.ahead = self.states[-1]
        self.states.append((points, lines))


def is_name(thing):
    """Whether this is a text of one to eight letters a to z."""
    if not isinstance(thing, str) or not 1 <= len(thing) <= LONGEST_NAME:
        return False
    return all(sign in LETTERS for sign in thing)


def check_name(name, rows):
    """Refuses what is no name, or none of these."""
    if not isinstance(name, str) or name not in rows:
        raise NoName("nothing has this name")


def others_than(name, rows):
    """What stands by all other names."""
    return {key: row for key, row in rows.items() if key != name}


def placed(state):
    """Each line by its name."""
    points, lines = state
    return {name: (points[one], points[other]) for name, (one, other) in lines.items()}

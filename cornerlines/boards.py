"""A board: lines come and go by numbers that stay theirs."""

from cornerlines.changes import changed, drawn_by, missing_in
from cornerlines.errors import NoNumber, TooMany
from cornerlines.lines import MOST_LINES
from cornerlines.wants import wants_of
from cornerlines.wholes import is_whole


class Board:
    """Lines by their numbers, and what is drawn of those that stand."""

    def __init__(self, grain):
        self.grain = grain
        self.given = 0
        self.standing = {}
        self.now = drawn_by(grain, {})
        self.ahead = self.now

    def put(self, line):
        """Lets a line stand; tells its number."""
        if len(self.standing) >= MOST_LINES:
            raise TooMany("no more lines may stand")
        number = self.given
        self.given += 1
        self.redraw({**self.standing, number: line})
        return number

    def out(self, number):
        """Takes the line of this number away."""
        self.check_number(number)
        self.redraw({k: line for k, line in self.standing.items() if k != number})

    def turn(self, number, line):
        """Puts another line in the place of that of this number."""
        self.check_number(number)
        self.redraw({**self.standing, number: line})

    def lines(self):
        """(number, line) of each line that stands, rising."""
        return tuple(self.standing.items())

    def corners(self):
        """The corners of the lines' drawing."""
        return self.now[0]

    def wants(self):
        """(corner, wants) of each corner, by the lines' numbers."""
        numbers = list(self.standing)
        rows = wants_of(self.grain, tuple(self.standing.values()))
        return tuple([(corner, tuple([by_numbers(numbers, want) for want in wants])) for corner, wants in rows])

    def path(self, number):
        """The path of the line of this number."""
        self.check_number(number)
        return self.now[1][number]

    def came(self):
        """The corners that are there and weren't ahead of the last deed."""
        return missing_in(self.ahead[0], self.now[0])

    def went(self):
        """The corners that were there ahead of the last deed and aren't."""
        return missing_in(self.now[0], self.ahead[0])

    def moved(self):
        """The numbers of lines that stood ahead of the last deed, too, and had another path."""
        return changed(self.ahead[1], self.now[1])

    def check_number(self, number):
        """Refuses what is no number of a line that stands."""
        if not is_whole(number) or number not in self.standing:
            raise NoNumber("no line has this number")

    def redraw(self, standing):
        """Does a deed: these lines stand from now on."""
        self.standing = standing
        self.ahead = self.now
        self.now = drawn_by(self.grain, standing)


def by_numbers(numbers, want):
    """What wants a corner, with the lines' numbers instead of their places."""
    word, k, other = want
    return (word, numbers[k], other if word == "end" else numbers[other])

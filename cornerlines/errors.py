"""What the program refuses with."""


class DrawError(ValueError):
    """A refusal of any kind."""


class NoText(DrawError):
    """This writes no lines, or no paths."""


class NoNumber(DrawError):
    """No line has this number."""


class TooMany(DrawError):
    """No more may stand."""


class NoName(DrawError):
    """This is no name, or none that stands."""


class Taken(DrawError):
    """The name is another one's."""


class NoLine(DrawError):
    """Both ends would lie at one place."""


class NoBack(DrawError):
    """There are not so many deeds."""


class NoRow(DrawError):
    """This is no row that a desk knows."""


class Used(DrawError):
    """A line ends there; name is that line's."""

    def __init__(self, name):
        super().__init__(name)
        self.name = name

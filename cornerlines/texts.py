"""Lines and paths, written and read."""

from cornerlines.errors import NoText
from cornerlines.lines import is_grain, is_line

FIGURES = "0123456789"
MOST_FIGURES = 30


def show_lines(grain, lines):
    """The text of these lines: their grain's row, then a row for each."""
    rows = [f"grain {grain}"]
    for (x, y), (far_x, far_y) in lines:
        rows.append(f"{x} {y} {far_x} {far_y}")
    return "\n".join(rows)


def read_lines(text):
    """(grain, lines) of what show_lines writes; NoText of all else."""
    rows = rows_of(text)
    grain = grain_in(rows[0])
    return grain, tuple([line_in(row) for row in rows[1:]])


def show_paths(paths):
    """The text of these paths: a row for each."""
    return "\n".join([path_row(path) for path in paths])


def read_paths(text):
    """The paths of what show_paths writes; NoText of all else."""
    rows = rows_of(text)
    if rows == [""]:
        return ()
    return tuple([path_in(row) for row in rows])


def rows_of(text):
    """The rows of a text; NoText where this is none."""
    if not isinstance(text, str):
        raise NoText("this is no text")
    return text.split("\n")


def path_row(path):
    """The row of one path."""
    return ", ".join([f"{i} {j}" for i, j in path])


def grain_in(row):
    """The grain that the first row of lines tells."""
    word, blank, rest = row.partition(" ")
    grain = number_of(rest)
    if word != "grain" or not is_grain(grain):
        raise NoText("the first row tells no grain")
    return grain


def line_in(row):
    """The line that a row tells."""
    x, y, far_x, far_y = numbers_in(row, 4)
    line = ((x, y), (far_x, far_y))
    if not is_line(line):
        raise NoText("both points of a line are alike")
    return line


def path_in(row):
    """The path that a row tells."""
    path = tuple([numbers_in(word, 2) for word in row.split(", ")])
    if len(set(path)) < len(path):
        raise NoText("a corner stands twice in a path")
    return path


def numbers_in(row, many):
    """The numbers of a row of just so many, parted by one blank."""
    numbers = tuple([number_of(word) for word in row.split(" ")])
    if len(numbers) != many or None in numbers:
        raise NoText("a row has other words than its numbers")
    return numbers


def number_of(word):
    """The number that a word writes; None where it writes none."""
    below = word.startswith("-")
    figures = word[1:] if below else word
    if not are_figures(figures) or (below and figures == "0"):
        return None
    return int(word)


def are_figures(word):
    """Whether these are one to thirty figures without noughts ahead."""
    if not 1 <= len(word) <= MOST_FIGURES:
        return False
    if word.startswith("0") and len(word) > 1:
        return False
    return all(sign in FIGURES for sign in word)

"""Rows, texts and entries as lines, and such lines read back."""

from skewread.errors import NoShown
from skewread.kinds import GREATEST_SIGN

MOST_BYTES = 800
MOST_SIGNS = 200
MOST_ENTRIES = 800
FIGURES = "0123456789"
BYTE_FIGURES = "0123456789abcdef"
NONE_LINE = "-"
LOST_LINE = "?"


def show_row(row):
    """The line that shows a row."""
    if len(row) == 0:
        return NONE_LINE
    return "".join([BYTE_FIGURES[byte // 16] + BYTE_FIGURES[byte % 16] for byte in row])


def show_text(text):
    """The line that shows a text."""
    return show_entries(text)


def show_entries(entries):
    """The line that shows entries."""
    if len(entries) == 0:
        return NONE_LINE
    return ".".join([LOST_LINE if entry is None else str(entry) for entry in entries])


def read_row(line):
    """The row that the line shows; NoShown(at) where it shows none."""
    if line == NONE_LINE:
        return []
    at = row_beginning(line)
    if at == 0 or at % 2 == 1 or at < len(line):
        raise NoShown(at)
    return [byte_shown(line[place], line[place + 1]) for place in range(0, at, 2)]


def row_beginning(line):
    """The length of the line's longest beginning with which a line that shows a row begins."""
    if line.startswith(NONE_LINE):
        return len(NONE_LINE)
    most = min(len(line), 2 * MOST_BYTES)
    at = 0
    while at < most and line[at] in BYTE_FIGURES:
        at += 1
    return at


def byte_shown(higher, lower):
    """The byte of its two figures."""
    return 16 * BYTE_FIGURES.index(higher) + BYTE_FIGURES.index(lower)


def read_text(line):
    """The text that the line shows; NoShown(at) where it shows none."""
    return read_listed(line, MOST_SIGNS, False)


def read_entries(line):
    """The entries that the line shows; NoShown(at) where it shows none."""
    return read_listed(line, MOST_ENTRIES, True)


def read_listed(line, most, with_lost):
    """The things, at most so many, that the line shows with a point between two; NoShown(at)."""
    if line == NONE_LINE:
        return []
    if line.startswith(NONE_LINE):
        raise NoShown(len(NONE_LINE))
    things = []
    start = 0
    while True:
        end = thing_end(line, start, with_lost)
        if end == start:
            raise NoShown(start)
        things.append(thing_shown(line[start:end]))
        if end == len(line):
            return things
        if line[end] != "." or len(things) == most:
            raise NoShown(end)
        start = end + 1


def thing_end(line, start, with_lost):
    """The place behind the sign, or the lost byte, that stands from start on; start where none stands there."""
    if with_lost and line[start:start + 1] == LOST_LINE:
        return start + 1
    end = start
    while end < len(line) and line[end] in FIGURES and are_sign(line[start:end + 1]):
        end += 1
    return end


def are_sign(figures):
    """Whether these figures, one or more, are a sign's, without needless noughts."""
    return (len(figures) == 1 or figures[0] != "0") and int(figures) <= GREATEST_SIGN


def thing_shown(part):
    """The entry that this part of a line shows."""
    return None if part == LOST_LINE else int(part)

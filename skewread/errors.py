"""What the program refuses: a class for each refusal.

None stands beneath another one, so that who takes one by its name takes no other.
"""


class SkewError(ValueError):
    """Any refusal of the program."""


class NoShown(SkewError):
    """A line shows nothing: no line that does begins with more than its first `at` letters."""

    def __init__(self, at):
        self.at = at


class Twice(SkewError):
    """Two pairs of a table have one sign."""

    def __init__(self, first, second):
        self.first = first
        self.second = second


class Begins(SkewError):
    """Of two pairs of a table the one's word begins the other's, or is the same."""

    def __init__(self, first, second):
        self.first = first
        self.second = second


class NoSign(SkewError):
    """A code lacks the sign at this place of a text."""

    def __init__(self, at):
        self.at = at


class NoReading(SkewError):
    """From this place of a row on no word is whole."""

    def __init__(self, at):
        self.at = at


class NoName(SkewError):
    """A family lacks this name."""

    def __init__(self, name):
        self.name = name


class Taken(SkewError):
    """A family has this name already."""

    def __init__(self, name):
        self.name = name


class NoMark(SkewError):
    """No mark of a family begins a row."""


class TwoMarks(SkewError):
    """Several names of a family have the mark that begins a row; these are the first two."""

    def __init__(self, first, second):
        self.first = first
        self.second = second


class NoWay(SkewError):
    """This leg of a way cannot be gone."""

    def __init__(self, leg):
        self.leg = leg


class NoOriginal(SkewError):
    """No text comes out as these entries."""


class TooMany(SkewError):
    """There are more than were asked for at most."""

    def __init__(self, most):
        self.most = most


class NoLine(SkewError):
    """The desk knows no such line."""

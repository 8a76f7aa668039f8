"""Ways astray: texts written in one code and read in another, leg by leg."""

from skewread.errors import NoReading, NoSign, NoWay
from skewread.reading import read
from skewread.writing import write


def leg_codes(family, way):
    """The two codes of each leg; NoName(name) of the first name in the way that the family lacks."""
    return [(family.code(first), family.code(second)) for first, second in way]


def gone(one, other, text):
    """The list of the text's row in code one and the text that code other reads; None where this cannot be gone.

    A row is read as the one text that is written so. So a leg is gone back by its codes the other way round.
    """
    try:
        row = write(one, text)
        return [row, read(other, row)]
    except (NoSign, NoReading):
        return None


def trail(family, text, way):
    """The list of the text, its row, the text read and so on, to the text at the end; NoName(name), NoWay(leg)."""
    told = [list(text)]
    for leg, codes in enumerate(leg_codes(family, way)):
        steps = gone(codes[0], codes[1], told[-1])
        if steps is None:
            raise NoWay(leg)
        told.extend(steps)
    return told


def astray(family, text, way):
    """The text at the end of the way; NoName(name), NoWay(leg)."""
    return trail(family, text, way)[-1]


def mended(family, text, way):
    """The text that goes astray on this way to that text; NoName(name), NoWay(leg) of the last leg not gone back."""
    codes = leg_codes(family, way)
    before = list(text)
    for leg in range(len(way) - 1, -1, -1):
        steps = gone(codes[leg][1], codes[leg][0], before)
        if steps is None:
            raise NoWay(leg)
        before = steps[1]
    return before

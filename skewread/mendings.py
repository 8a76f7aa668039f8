"""All ways on which texts can have gone astray to a text, each with that text."""

from skewread.errors import TooMany
from skewread.ways import gone


def unlike_legs(names):
    """The legs of two unlike names, by their places among the names."""
    legs = []
    for first in names:
        legs.extend([(first, second) for second in names if second != first])
    return legs


def led_from(family, found, enough):
    """The (way, text) that are one leg longer, at its beginning, than those found; no more than are enough.

    All of the found ones are walked for each leg, so what is told is in order where what was found is.
    """
    told = []
    for leg in unlike_legs(family.names()):
        for way, text in found:
            steps = gone(family.code(leg[1]), family.code(leg[0]), text)
            if steps is not None:
                told.append(([leg] + way, steps[1]))
            if len(told) == enough:
                return told
    return told


def mendings(family, text, legs, most):
    """The list of (way, text) of all ways of so many legs at most that lead from some text to this one; TooMany(most).

    Each way's last legs are the way of a mending, too. So what is gone back from is never more than what may be told.
    """
    told = []
    found = [([], text)]
    for size in range(legs):
        found = led_from(family, found, most - len(told) + 1)
        told.extend(found)
        if len(told) > most:
            raise TooMany(most)
    return told


def roots(family, text, legs, most):
    """The rising list of the unlike texts among the mendings; TooMany(most)."""
    texts = [tuple(root) for way, root in mendings(family, text, legs, most)]
    return [list(root) for root in sorted(dict([(root, True) for root in texts]))]


def ways_between(family, one, other, legs, most):
    """The ways, among the mendings of the other text, whose text is the one; TooMany(most)."""
    return [way for way, root in mendings(family, other, legs, most) if root == one]

"""What the originals of a leaving have in common, and where they differ."""

from skewread.errors import NoOriginal
from skewread.originals import FIRST_SPOT, Leaving


def counts_ahead(leaving):
    """For each spot that some original comes to: on how many ways it is come to."""
    counts = {FIRST_SPOT: 1}
    for spot in sorted(leaving.steps):
        for sign, behind in leaving.steps[spot]:
            counts[behind] = counts.get(behind, 0) + counts[spot]
    return counts


def sign_counts(leaving):
    """For each (place, sign): how many originals have this sign's word from this place on."""
    ahead = counts_ahead(leaving)
    counts = {}
    for spot in ahead:
        for sign, behind in leaving.steps.get(spot, []):
            counted = ahead[spot] * leaving.behind[behind]
            counts[(spot[0], sign)] = counts.get((spot[0], sign), 0) + counted
    return counts


def doubts(one, other, entries):
    """The list of (place, sign, count), by places, then signs: so many originals have the sign from the place on."""
    counts = sign_counts(Leaving(one, other, entries))
    return [(place, sign, counts[(place, sign)]) for place, sign in sorted(counts)]


def sure_in(leaving):
    """The list of (place, sign), by places, that all originals have; NoOriginal()."""
    total = leaving.original_total()
    if total == 0:
        raise NoOriginal()
    counts = sign_counts(leaving)
    return [placed for placed in sorted(counts) if counts[placed] == total]


def sure_signs(one, other, entries):
    """The list of (place, sign), by places, that all originals have; NoOriginal()."""
    return sure_in(Leaving(one, other, entries))


def open_places(one, other, entries):
    """The rising list of the places of bytes that no sure sign's word covers; NoOriginal()."""
    leaving = Leaving(one, other, entries)
    covered = {}
    for place, sign in sure_in(leaving):
        for step in range(len(one.word(sign))):
            covered[place + step] = True
    return [place for place in range(leaving.size) if place not in covered]

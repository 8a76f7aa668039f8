"""What a leaving can have been: the texts that, written in one code and read in another, come out as its entries."""

from skewread.errors import NoOriginal, TooMany

FIRST_SPOT = (0, ())


def known_bytes(other, entries):
    """Each byte of the originals' rows, None for a lost one; no list but None where code other lacks a sign."""
    known = []
    for entry in entries:
        word = (None,) if entry is None else other.word(entry)
        if word is None:
            return None
        known.extend(word)
    return known


def byte_taken(other, known, place, swaying, byte):
    """The bytes that sway when this byte stands at the place behind those that swayed; None where it cannot stand so.

    A lost byte sways as long as bytes to come may make a word whole there: then it would be no lost one. The bytes from
    the first such place on are those that sway.
    """
    if known[place] is not None and known[place] != byte:
        return None
    row = swaying + (byte,)
    rests = [row[skip:] for skip in range(len(row)) if known[place + 1 - len(row) + skip] is None]
    if any([other.sign(rest) is not None for rest in rests]):
        return None
    swayed = [rest for rest in rests if other.live(rest)]
    return swayed[0] if len(swayed) > 0 else ()


def word_taken(other, known, spot, word):
    """The spot behind the word, where it stands from this spot on; None where it cannot stand there."""
    place = spot[0]
    swaying = spot[1]
    if place + len(word) > len(known):
        return None
    for byte in word:
        swaying = byte_taken(other, known, place, swaying, byte)
        if swaying is None:
            return None
        place += 1
    return (place, swaying)


def steps_at(one, other, known, spot):
    """The list of (sign, spot behind its word), by rising signs, of what can stand from this spot on."""
    steps = [(sign, word_taken(other, known, spot, one.word(sign))) for sign in one.signs()]
    return [(sign, behind) for sign, behind in steps if behind is not None]


def all_steps(one, other, known):
    """The steps at each spot that is come to from the first one."""
    steps = {}
    waiting = [FIRST_SPOT]
    while len(waiting) > 0:
        spot = waiting.pop()
        if spot not in steps:
            steps[spot] = steps_at(one, other, known, spot)
            waiting.extend([behind for sign, behind in steps[spot]])
    return steps


def counts_behind(steps, size):
    """For each spot: on how many ways the steps lead from there to the row's end."""
    counts = {}
    for spot in sorted(steps, reverse=True):
        counts[spot] = 1 if spot[0] == size else sum([counts[behind] for sign, behind in steps[spot]])
    return counts


class Leaving:
    """Entries, as the steps by which all their originals are written.

    A spot is (place, swaying): the place of a byte, and the bytes ahead of it that sway there. What can stand behind a
    spot does not hang on how it was come to. `behind` counts, for each spot, the ways on to the end, and `steps` are
    those alone from which the end is come to.
    """

    def __init__(self, one, other, entries):
        known = known_bytes(other, entries)
        steps = {} if known is None else all_steps(one, other, known)
        self.size = 0 if known is None else len(known)
        self.behind = counts_behind(steps, self.size)
        self.steps = {}
        for spot in steps:
            self.steps[spot] = [(sign, behind) for sign, behind in steps[spot] if self.behind[behind] > 0]

    def original_total(self):
        """How many originals there are."""
        return self.behind.get(FIRST_SPOT, 0)


def original_count(one, other, entries):
    """How many texts come out as these entries."""
    return Leaving(one, other, entries).original_total()


def least_original(one, other, entries):
    """The first, in order, of the texts that come out as these entries; NoOriginal()."""
    leaving = Leaving(one, other, entries)
    if leaving.original_total() == 0:
        raise NoOriginal()
    text = []
    spot = FIRST_SPOT
    while spot[0] < leaving.size:
        step = leaving.steps[spot][0]
        text.append(step[0])
        spot = step[1]
    return text


def all_originals(one, other, entries, most):
    """The rising list of the texts that come out as these entries; TooMany(most) where there are more than most."""
    leaving = Leaving(one, other, entries)
    if leaving.original_total() > most:
        raise TooMany(most)
    told = []
    begun = [([], FIRST_SPOT)] if leaving.original_total() > 0 else []
    while len(begun) > 0:
        told.extend([text for text, spot in begun if spot[0] == leaving.size])
        begun = one_step_on(leaving, begun)
    return sorted(told)


def one_step_on(leaving, begun):
    """Each begun (text, spot) with each further sign that can stand there."""
    further = []
    for text, spot in begun:
        further.extend([(text + [sign], behind) for sign, behind in leaving.steps[spot]])
    return further

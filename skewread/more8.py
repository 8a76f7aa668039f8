"""Two texts of a code laid side by side, and read in another code as far as both are certain.

A side is (tail, text): the bytes of the text's row from the first place on where one of the two sides is not certain,
and the text, a tuple. A couple is (longer, shorter, unlike): the side with the longer tail, where both are as long the
one whose tail is not behind the other's; the other side; and whether the texts differ.
"""

from skewread.losses import spill
from skewread.reading import word_at

FIRST_COUPLE = (((), ()), ((), ()), False)


def sways(code, row, place):
    """Whether bytes to come may change how the row is read from the place on."""
    return word_at(code, row, place) is None and code.live(row[place:])


def certain_size(code, one, other):
    """How many of the bytes that both tails have are read alike for certain; None where they are read unlike."""
    shared = min(len(one), len(other))
    rows = (one[:shared], other[:shared])
    place = 0
    while place < shared:
        if sways(code, rows[0], place) or sways(code, rows[1], place):
            return place
        word = word_at(code, rows[0], place)
        if word_at(code, rows[1], place) != word:
            return None
        place += 1 if word is None else len(word)
    return place


def coupled(code, one, other, unlike):
    """The couple of two sides, read in the code and cut where they are certain; None where they are read unlike."""
    size = certain_size(code, one[0], other[0])
    if size is None:
        return None
    sides = [(tail[size:], text) for tail, text in (one, other)]
    ordered = sorted(sides, key=lambda side: (-len(side[0]), side[0]))
    return (ordered[0], ordered[1], unlike)


def with_sign(side, sign, word):
    """The side that takes the sign."""
    return (side[0] + word, side[1] + (sign,))


def pairs_taken(one, other, couple):
    """The couples behind one whose texts do not differ: one sign is taken by both, or unlike signs are."""
    further = []
    table = one.table()
    for place, pair in enumerate(table):
        first = with_sign(couple[0], pair[0], pair[1])
        further.append(coupled(other, first, first, False))
        seconds = [with_sign(couple[0], sign, word) for sign, word in table[:place]]
        further.extend([coupled(other, first, second, True) for second in seconds])
    return further


def signs_taken(one, other, couple):
    """The couples behind one whose texts differ: the side with the shorter row takes a sign, either where none is."""
    table = one.table()
    shorter = [with_sign(couple[1], sign, word) for sign, word in table]
    further = [coupled(other, couple[0], side, True) for side in shorter]
    if len(couple[0][0]) == len(couple[1][0]):
        longer = [with_sign(couple[0], sign, word) for sign, word in table]
        further.extend([coupled(other, side, couple[1], True) for side in longer])
    return further


def state_of(couple):
    """The couple's state (rest, left, right, unlike)."""
    tail = couple[0][0]
    size = len(couple[1][0])
    return (tail[size:], tail[:size], couple[1][0], couple[2])


def is_end(code, state):
    """Whether unlike texts have come to this state that are read alike where nothing comes behind them."""
    return state[3] and state[0] == () and spill(code, state[1]) == spill(code, state[2])


def walked(one, other):
    """(states, texts): a dict of the states reached from the first one, and None; or, at the first end, its two texts.

    The couples are gone through by the signs of both texts together, so no end has fewer of them than the first one.
    """
    reached = {}
    waiting = {0: [FIRST_COUPLE]}
    taken = 0
    while len(waiting) > 0:
        couples = waiting.pop(taken, [])
        for couple in couples:
            state = state_of(couple)
            if state in reached:
                continue
            if is_end(other, state):
                return (reached, (list(couple[0][1]), list(couple[1][1])))
            reached[state] = True
            further = signs_taken(one, other, couple) if couple[2] else pairs_taken(one, other, couple)
            size = taken + 1 if couple[2] else taken + 2
            waiting.setdefault(size, []).extend([behind for behind in further if behind is not None])
        taken += 1
    return (reached, None)

"""Loose tables, whose words may begin one another or be the same: all texts that are written as a row."""

from skewread.errors import TooMany


def pairs_at(table, row, place):
    """The pairs whose word stands whole in the row, a tuple, from the place on."""
    return [(sign, word) for sign, word in table if row[place:place + len(word)] == word]


def counts_from(table, row):
    """For each place of the row, a tuple, and for its end: how many texts are written as the bytes from there on."""
    counts = [0] * len(row) + [1]
    for place in range(len(row) - 1, -1, -1):
        counts[place] = sum([counts[place + len(word)] for sign, word in pairs_at(table, row, place)])
    return counts


def reading_count(table, row):
    """How many texts are written as this row."""
    return counts_from(table, tuple(row))[0]


def all_readings(table, row, most):
    """The rising list of the texts that are written as this row; TooMany(most) where there are more than most."""
    bytes_read = tuple(row)
    counts = counts_from(table, bytes_read)
    if counts[0] > most:
        raise TooMany(most)
    told = []
    begun = [([], 0)]
    while len(begun) > 0:
        told.extend([text for text, place in begun if place == len(row)])
        begun = one_sign_on(table, bytes_read, begun, counts)
    return sorted(told)


def one_sign_on(table, row, begun, counts):
    """Each begun (text, place) with each further sign behind which the row can be read to its end.

    Dead ends are left out at once, so there are never more of these than texts in the end.
    """
    further = []
    for text, place in begun:
        for sign, word in pairs_at(table, row, place):
            if counts[place + len(word)] > 0:
                further.append((text + [sign], place + len(word)))
    return further

"""Rows read with their bytes lost where no word stands."""

from skewread.reading import word_at
from skewread.writing import write


def spilt(code, row):
    """The list of (place, entry): a sign where its word stands whole, else None for the one byte there."""
    told = []
    place = 0
    while place < len(row):
        word = word_at(code, row, place)
        if word is None:
            told.append((place, None))
            place += 1
        else:
            told.append((place, code.sign(word)))
            place += len(word)
    return told


def spill(code, row):
    """The entries that the row is read as."""
    return [entry for place, entry in spilt(code, row)]


def lost_places(code, row):
    """The rising list of the places of the lost bytes."""
    return [place for place, entry in spilt(code, row) if entry is None]


def carried(one, other, text):
    """The entries of the text, written in code one and read in code other; NoSign(at) where code one lacks a sign."""
    return spill(other, write(one, text))

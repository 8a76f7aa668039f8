"""Rows read in a code, and the rows that tell two codes apart."""

from skewread.errors import NoReading


def word_at(code, row, place):
    """The word that stands whole in the row from the place on, or None."""
    for size in code.word_sizes:
        word = tuple(row[place:place + size])
        if code.sign(word) is not None:
            return word
    return None


def read(code, row):
    """The text that is written as this row; NoReading(at) at the byte from which on no word is whole."""
    text = []
    place = 0
    while place < len(row):
        word = word_at(code, row, place)
        if word is None:
            raise NoReading(place)
        text.append(code.sign(word))
        place += len(word)
    return text


def telling(one, other):
    """The least row that the two codes read unlike, or None where they read all rows alike.

    A row whose words are all the same signs' in the other code is read alike there. So a row that is read unlike has a
    word that is read unlike by itself: the least such row is one word, of a pair that one of the codes lacks.
    """
    words = unshared_words(one, other) + unshared_words(other, one)
    if len(words) == 0:
        return None
    return list(min(words, key=lambda word: (len(word), word)))


def unshared_words(one, other):
    """The words of the pairs that code one has and code other has not."""
    return [word for sign, word in one.table() if other.word(sign) != word]

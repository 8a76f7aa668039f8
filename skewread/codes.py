"""Tables of signs and words, and the codes that they make."""

from skewread.errors import Begins, Twice


def fault(table):
    """None, or (word, i, j) of the first two pairs at odds: the least j, then the least i."""
    for second in range(len(table)):
        for first in range(second):
            odds = odds_between(table[first], table[second])
            if odds is not None:
                return (odds, first, second)
    return None


def odds_between(one, other):
    """The word for how the two pairs are at odds, "twice" ahead of "begins"; None where they are not."""
    if one[0] == other[0]:
        return "twice"
    shared = min(len(one[1]), len(other[1]))
    if one[1][:shared] == other[1][:shared]:
        return "begins"
    return None


def refuse_fault(table):
    """Raises what fault tells of the table."""
    found = fault(table)
    if found is None:
        return
    if found[0] == "twice":
        raise Twice(found[1], found[2])
    raise Begins(found[1], found[2])


def beginnings(words):
    """A dict with each beginning, less than the whole, of one of the words."""
    found = {}
    for word in words:
        for size in range(len(word)):
            found[word[:size]] = True
    return found


class Code:
    """Writes signs as words, none of which begins another one, so that rows are read in one way at most."""

    def __init__(self, table):
        refuse_fault(table)
        self.pairs = tuple(sorted(table, key=lambda pair: pair[1]))
        self.words_by_sign = dict(self.pairs)
        self.signs_by_word = dict([(word, sign) for sign, word in self.pairs])
        self.begun = beginnings([word for sign, word in self.pairs])
        self.word_sizes = tuple(sorted(dict([(len(word), True) for sign, word in self.pairs])))

    def table(self):
        """The pairs by rising words."""
        return list(self.pairs)

    def signs(self):
        """The rising list of the signs."""
        return sorted([sign for sign, word in self.pairs])

    def word(self, sign):
        """The sign's word, or None."""
        return self.words_by_sign.get(sign)

    def sign(self, word):
        """The word's sign, or None."""
        return self.signs_by_word.get(word)

    def longest(self):
        """The size of the longest word, 0 where there is none."""
        return max(self.word_sizes, default=0)

    def same(self, other):
        """Whether both codes have the same pairs."""
        return self.pairs == other.pairs

    def live(self, row):
        """Whether the row begins a word and is less than it."""
        return tuple(row) in self.begun

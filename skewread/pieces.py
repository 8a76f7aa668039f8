"""Rows that come in pieces, cut anywhere, read as the whole row is."""

from skewread.losses import spill, spilt


def certain_part(code, row):
    """(entries, rest): the entries that nothing to come can change, and the bytes behind theirs.

    No word begins another one, so an entry sways just where the row ends within a word that is begun there.
    """
    entries = []
    for place, entry in spilt(code, row):
        if entry is None and code.live(row[place:]):
            return (entries, row[place:])
        entries.append(entry)
    return (entries, [])


def word_end(code, begun):
    """The bytes that make the row, which is live, a whole word: the first such word's."""
    ends = [word[len(begun):] for sign, word in code.table() if list(word[:len(begun)]) == begun]
    return list(ends[0])


class Reader:
    """Reads a row piece by piece, and holds back only what the pieces to come may change."""

    def __init__(self, code):
        self.own_code = code
        self.waiting = []

    def feed(self, row):
        """The list of the entries that are certain by this piece and were not before it."""
        parted = certain_part(self.own_code, self.waiting + row)
        self.waiting = parted[1]
        return parted[0]

    def finish(self):
        """The list of the entries not told yet, where nothing comes any more; the reader is then as new."""
        entries = spill(self.own_code, self.waiting)
        self.waiting = []
        return entries

    def held(self):
        """The list of the bytes of the entries not told yet."""
        return list(self.waiting)

    def twin(self):
        """A reader of the same code that goes on from here."""
        other = Reader(self.own_code)
        other.lay(self.waiting)
        return other

    def lay(self, row):
        """Goes on from what a reader of this code held, in the place of what this one holds."""
        self.waiting = list(row)

    def swaying(self):
        """A row that, fed, makes the first entry told a sign; None where nothing is held."""
        if len(self.waiting) == 0:
            return None
        return word_end(self.own_code, self.waiting)

    def apart(self, other):
        """A row that, fed to both readers and finished, makes them tell unlike entries; None where both hold the same.

        What makes the one's bytes a word is told as that one sign there, and as anything else behind other bytes.
        """
        if self.held() == other.held():
            return None
        row = self.swaying()
        return other.swaying() if row is None else row


def read_pieces(code, rows):
    """The entries of the rows, fed one after the other, and of the finish."""
    reader = Reader(code)
    entries = []
    for row in rows:
        entries.extend(reader.feed(row))
    return entries + reader.finish()

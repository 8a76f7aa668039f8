"""Codes by names, with marks at the beginning of their rows."""

from skewread.errors import NoMark, NoName, NoReading, Taken, TwoMarks
from skewread.losses import lost_places
from skewread.reading import read, word_at
from skewread.writing import write


def least_text_over(code, row):
    """The least text, by fewer signs, then by order, whose row begins with this one; None where there is none.

    No word begins another one, so all signs are given by the row but the last one, whose word may reach beyond it.
    """
    text = []
    place = 0
    while place < len(row):
        word = word_at(code, row, place)
        if word is None:
            sign = least_sign_over(code, row[place:])
            return None if sign is None else text + [sign]
        text.append(code.sign(word))
        place += len(word)
    return text


def least_sign_over(code, row):
    """The least sign whose word begins with the row; None where there is none."""
    return min([sign for sign, word in code.table() if word[:len(row)] == row], default=None)


def begins_row(mark, row):
    """Whether the mark is not of none and begins the row."""
    return len(mark) > 0 and tuple(row[:len(mark)]) == mark


class Family:
    """Codes by names, in the order in which they were told, each with a mark, perhaps of none."""

    def __init__(self):
        self.codes_by_name = {}
        self.marks_by_name = {}

    def add(self, name, code, mark):
        """The family has the code by this name from now on; Taken(name)."""
        if name in self.codes_by_name:
            raise Taken(name)
        self.codes_by_name[name] = code
        self.marks_by_name[name] = tuple(mark)

    def names(self):
        """The list of the names, in the order told."""
        return list(self.codes_by_name)

    def code(self, name):
        """The name's code; NoName(name)."""
        if name not in self.codes_by_name:
            raise NoName(name)
        return self.codes_by_name[name]

    def mark(self, name):
        """The name's mark; NoName(name)."""
        if name not in self.marks_by_name:
            raise NoName(name)
        return self.marks_by_name[name]

    def fitting(self, row):
        """The names of the codes that read the whole row, marks aside."""
        return [name for name in self.names() if len(lost_places(self.code(name), row)) == 0]

    def marked(self, name, text):
        """The mark's bytes and behind them the text as it is written; NoName(name), NoSign(at)."""
        return list(self.mark(name)) + write(self.code(name), text)

    def by_mark(self, row):
        """The names of the longest mark, or marks, that are not of none and begin the row."""
        names = [name for name, mark in self.marks_by_name.items() if begins_row(mark, row)]
        longest = max([len(self.mark(name)) for name in names], default=0)
        return [name for name in names if len(self.mark(name)) == longest]

    def opened(self, row):
        """(name, text) of the one name told by the mark; NoMark(), TwoMarks(first, second), NoReading(at)."""
        names = self.by_mark(row)
        if len(names) == 0:
            raise NoMark()
        if len(names) > 1:
            raise TwoMarks(names[0], names[1])
        size = len(self.mark(names[0]))
        try:
            text = read(self.code(names[0]), row[size:])
        except NoReading as refusal:
            raise NoReading(size + refusal.at) from None
        return (names[0], text)

    def mistaken(self, name, text):
        """Whether the marked text's row tells anything but this one name; NoName(name), NoSign(at)."""
        return self.by_mark(self.marked(name, text)) != [name]

    def misled(self, name):
        """The least text of the code that is mistaken; None where none is; NoName(name).

        A text is mistaken just where another name's mark is this one's and, perhaps, some of the text's bytes.
        """
        own = self.mark(name)
        if len(own) == 0:
            return []
        others = [mark for other, mark in self.marks_by_name.items() if other != name]
        rests = [mark[len(own):] for mark in others if mark[:len(own)] == own]
        texts = [least_text_over(self.code(name), rest) for rest in rests]
        return min([text for text in texts if text is not None], key=lambda text: (len(text), text), default=None)

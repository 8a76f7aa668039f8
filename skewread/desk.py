"""The desk: a family and its readers, asked by lines."""

from skewread.codes import Code
from skewread.doubts import sure_signs
from skewread.errors import NoName, Taken, Twice
from skewread.families import Family
from skewread.lines import NONE_LINE, show_entries, show_row, show_text
from skewread.losses import lost_places, spill
from skewread.mendings import mendings
from skewread.more9 import taken_apart
from skewread.originals import least_original, original_count
from skewread.pairs import merging
from skewread.pieces import Reader
from skewread.reading import read
from skewread.twofold import twofold
from skewread.ways import astray, mended
from skewread.writing import write


def reader_by(desk, name):
    """The desk's reader of this name; NoName(name)."""
    if name not in desk.readers:
        raise NoName(name)
    return desk.readers[name]


def refuse_twice(table):
    """Twice(i, j) of the first two places at which one sign stands."""
    signs = [sign for sign, word in table]
    for place, sign in enumerate(signs):
        if sign in signs[:place]:
            raise Twice(signs.index(sign), place)


def show_way(way):
    """The line that shows a way."""
    return ",".join([f"{first}>{second}" for first, second in way])


def show_two(texts, without):
    """The line that shows two texts; the line for being without them where they are None."""
    return without if texts is None else show_text(texts[0]) + " " + show_text(texts[1])


def answer_code(desk, things):
    """ok, and the desk has the code from now on; Taken(name), then Twice or Begins."""
    name = things[0]
    if name in desk.readers:
        raise Taken(name)
    code = Code(things[2])
    desk.family.add(name, code, things[1])
    desk.readers[name] = Reader(code)
    return "ok"


def answer_write(desk, things):
    """The row as which the text is written."""
    return show_row(write(desk.family.code(things[0]), things[1]))


def answer_read(desk, things):
    """The text that is read."""
    return show_text(read(desk.family.code(things[0]), things[1]))


def answer_spill(desk, things):
    """The entries that are read where bytes may be lost."""
    return show_entries(spill(desk.family.code(things[0]), things[1]))


def answer_lost(desk, things):
    """The places of the lost bytes."""
    return show_text(lost_places(desk.family.code(things[0]), things[1]))


def answer_feed(desk, things):
    """The entries that are certain by this piece."""
    return show_entries(reader_by(desk, things[0]).feed(things[1]))


def answer_finish(desk, things):
    """The entries that the reader held back."""
    return show_entries(reader_by(desk, things[0]).finish())


def answer_held(desk, things):
    """The bytes that the reader holds back."""
    return show_row(reader_by(desk, things[0]).held())


def answer_marked(desk, things):
    """The row of the text with its mark ahead."""
    return show_row(desk.family.marked(things[0], things[1]))


def answer_open(desk, things):
    """The name that the row's mark tells, and the text behind it."""
    found = desk.family.opened(things[0])
    return found[0] + " " + show_text(found[1])


def answer_fits(desk, things):
    """The names of the codes that read the whole row."""
    names = desk.family.fitting(things[0])
    return NONE_LINE if len(names) == 0 else ",".join(names)


def answer_misled(desk, things):
    """The least text that is mistaken."""
    text = desk.family.misled(things[0])
    return "never" if text is None else show_text(text)


def answer_astray(desk, things):
    """The text at the end of the way."""
    return show_text(astray(desk.family, things[1], things[0]))


def answer_mend(desk, things):
    """The text at the beginning of the way."""
    return show_text(mended(desk.family, things[1], things[0]))


def answer_mendings(desk, things):
    """All ways that lead to the text, each with its text."""
    found = mendings(desk.family, things[2], things[0], things[1])
    return "none" if len(found) == 0 else ";".join([show_way(way) + "=" + show_text(text) for way, text in found])


def answer_count(desk, things):
    """How many originals the entries have."""
    return str(original_count(desk.family.code(things[0]), desk.family.code(things[1]), things[2]))


def answer_least(desk, things):
    """The first original of the entries."""
    return show_text(least_original(desk.family.code(things[0]), desk.family.code(things[1]), things[2]))


def answer_sure(desk, things):
    """The signs that all originals of the entries have, with their places."""
    found = sure_signs(desk.family.code(things[0]), desk.family.code(things[1]), things[2])
    return NONE_LINE if len(found) == 0 else ",".join([f"{place}={sign}" for place, sign in found])


def answer_pair(desk, things):
    """Two texts that come out alike."""
    return show_two(merging(desk.family.code(things[0]), desk.family.code(things[1])), "apart")


def answer_loose(desk, things):
    """Two texts that the table writes alike."""
    refuse_twice(things[0])
    return show_two(twofold(things[0]), "one")


ANSWERS = {
    "code": answer_code,
    "write": answer_write,
    "read": answer_read,
    "spill": answer_spill,
    "lost": answer_lost,
    "feed": answer_feed,
    "finish": answer_finish,
    "held": answer_held,
    "marked": answer_marked,
    "open": answer_open,
    "fits": answer_fits,
    "misled": answer_misled,
    "astray": answer_astray,
    "mend": answer_mend,
    "mendings": answer_mendings,
    "count": answer_count,
    "least": answer_least,
    "sure": answer_sure,
    "pair": answer_pair,
    "loose": answer_loose,
}


class Desk:
    """Answers lines about the codes that it was told; what a refused line says changes nothing."""

    def __init__(self):
        self.family = Family()
        self.readers = {}

    def say(self, line):
        """The answer to the line; NoLine() first of all, then what the asked function refuses."""
        things = taken_apart(line)
        answer = ANSWERS[things[0]]
        return answer(self, things[1:])

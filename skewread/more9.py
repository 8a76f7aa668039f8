"""The desk's lines, taken apart into what their words show."""

from skewread.errors import NoLine, NoShown
from skewread.kinds import is_name, is_word
from skewread.lines import NONE_LINE, read_entries, read_row, read_text

LONGEST_MARK = 4
MOST_PAIRS = 24
MOST_LEGS = 3
MOST_LEFT = 40
MOST_TOLD = 200


def refuse_unless(truth):
    """NoLine() where what a line must keep to is not so."""
    if not truth:
        raise NoLine()


def name_in(word):
    """The name that the word is."""
    refuse_unless(is_name(word))
    return word


def row_in(word):
    """The row that the word shows."""
    return read_row(word)


def text_in(word):
    """The text that the word shows."""
    return read_text(word)


def entries_in(word):
    """The entries, as many as a leaving may have, that the word shows."""
    entries = read_entries(word)
    refuse_unless(len(entries) <= MOST_LEFT)
    return entries


def mark_in(word):
    """The mark that the word shows."""
    row = read_row(word)
    refuse_unless(len(row) <= LONGEST_MARK)
    return tuple(row)


def sign_in(word):
    """The one sign that the word shows."""
    text = read_text(word)
    refuse_unless(len(text) == 1)
    return text[0]


def legs_in(word):
    """The number of legs that the word shows."""
    number = sign_in(word)
    refuse_unless(1 <= number <= MOST_LEGS)
    return number


def most_in(word):
    """The number that may be told at most, as the word shows it."""
    number = sign_in(word)
    refuse_unless(number <= MOST_TOLD)
    return number


def table_in(word):
    """The table that the word shows."""
    if word == NONE_LINE:
        return []
    parts = word.split(",")
    refuse_unless(len(parts) <= MOST_PAIRS)
    return [pair_in(part) for part in parts]


def pair_in(part):
    """The pair of a sign and its word that this part of a table shows."""
    halves = part.split("=")
    refuse_unless(len(halves) == 2)
    word = tuple(read_row(halves[1]))
    refuse_unless(is_word(word))
    return (sign_in(halves[0]), word)


def way_in(word):
    """The way that the word shows."""
    parts = word.split(",")
    refuse_unless(len(parts) <= MOST_LEGS)
    return [leg_in(part) for part in parts]


def leg_in(part):
    """The leg that this part of a way shows."""
    names = part.split(">")
    refuse_unless(len(names) == 2)
    return (name_in(names[0]), name_in(names[1]))


FORMS = {
    "code": (name_in, mark_in, table_in),
    "write": (name_in, text_in),
    "read": (name_in, row_in),
    "spill": (name_in, row_in),
    "lost": (name_in, row_in),
    "feed": (name_in, row_in),
    "finish": (name_in,),
    "held": (name_in,),
    "marked": (name_in, text_in),
    "open": (row_in,),
    "fits": (row_in,),
    "misled": (name_in,),
    "astray": (way_in, text_in),
    "mend": (way_in, text_in),
    "mendings": (legs_in, most_in, text_in),
    "count": (name_in, name_in, entries_in),
    "least": (name_in, name_in, entries_in),
    "sure": (name_in, name_in, entries_in),
    "pair": (name_in, name_in),
    "loose": (table_in,),
}


def taken_apart(line):
    """The list of the line's first word and of what its other words show; NoLine()."""
    words = line.split(" ")
    refuse_unless(words[0] in FORMS)
    form = FORMS[words[0]]
    refuse_unless(len(words) == 1 + len(form))
    try:
        return words[:1] + [thing_in(word) for thing_in, word in zip(form, words[1:])]
    except NoShown:
        raise NoLine() from None

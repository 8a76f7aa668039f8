"""What several tests need: tables, the document's words on writing and reading, told without the program, and refusals."""

import itertools
import random

from skewread import errors
from skewread.codes import Code
from skewread.families import Family

SIGNS = [0, 1, 9, 10, 65, 255, 256, 7000, 10 ** 9 - 1, 10 ** 9]


def begins(start, whole):
    return list(whole[:len(start)]) == list(start)


def rows_of(alphabet, longest):
    """All rows of these bytes, fewer bytes first, then in Python's order."""
    for size in range(longest + 1):
        for row in itertools.product(sorted(alphabet), repeat=size):
            yield list(row)


def some_table(chance, alphabet, most, signs=None):
    """A table by chance, of at most so many pairs, none of them at odds."""
    words = [tuple(row) for row in rows_of(alphabet, 4) if row]
    signs = list(signs or SIGNS + list(range(300, 320)))
    chance.shuffle(signs)
    table = []
    for turn in range(chance.randrange(most + 1)):
        word = tuple(chance.choice(words)[:chance.choice([1, 2, 2, 3, 4])])
        if signs and not any(begins(word, other) or begins(other, word) for sign, other in table):
            table.append((signs.pop(), word))
    return table


def some_tables(seed, many, alphabet=(0, 7, 255), most=8, signs=None):
    """So many tables, the same ones for the same seed."""
    chance = random.Random(seed)
    return [some_table(chance, alphabet, most, signs) for turn in range(many)]


def full_table(shift=0):
    """A table of twenty-four pairs, of words of each size, that begin alike."""
    words = [(byte + shift,) for byte in range(6)]
    words += [(200, byte + shift) for byte in range(6)]
    words += [(200, 199, byte + shift) for byte in range(6)]
    words += [(200, 199, 198, byte + shift) for byte in range(6)]
    return [(place * 40000000, word) for place, word in enumerate(words)]


def written(table, text):
    """The row of the text, or None where a sign lacks."""
    words = dict(table)
    if any(sign not in words for sign in text):
        return None
    return [byte for sign in text for byte in words[sign]]


def readings(table, row):
    """All texts that are written as this row, whatever the table."""
    if len(row) == 0:
        return [[]]
    return [[sign] + rest for sign, word in table if begins(word, row) for rest in readings(table, row[len(word):])]


def furthest(table, row):
    """The furthest place to which words lead from the row's beginning on."""
    return max([0] + [len(word) + furthest(table, row[len(word):]) for sign, word in table if begins(word, row)])


def spilt_so(table, row):
    """Point 12, from the place 0 on."""
    told = []
    place = 0
    while place < len(row):
        found = [(sign, word) for sign, word in table if begins(word, row[place:])]
        told.append((place, found[0][0] if found else None))
        place += len(found[0][1]) if found else 1
    return told


def spill_so(table, row):
    """The entries alone of point 12."""
    return [entry for place, entry in spilt_so(table, row)]


def common_beginning(lists):
    """The longest list with which all these lists begin."""
    shared = []
    for parts in zip(*lists):
        if any(part != parts[0] for part in parts):
            break
        shared.append(parts[0])
    return shared


def certain_so(table, row, alphabet=(0, 7, 255)):
    """Point 13's own words: the entries with which all rows that begin so begin, whatever comes behind or nothing."""
    return common_beginning([spill_so(table, row + behind) for behind in rows_of(alphabet, 3)])


def cuts_of(row):
    """All lists of rows, none of which is of none, that make this row."""
    if len(row) == 0:
        return [[]]
    return [[row[:size]] + rest for size in range(1, len(row) + 1) for rest in cuts_of(row[size:])]


def some_loose_tables(seed, many, alphabet=(0, 1), most=6, longest=4):
    """So many tables by chance in which no sign stands twice, and words as they come."""
    chance = random.Random(seed)
    tables = []
    for turn in range(many):
        words = [tuple(chance.choice(alphabet) for byte in range(chance.randrange(1, longest + 1)))
                 for pair in range(chance.randrange(most + 1))]
        tables.append(list(zip(chance.sample(SIGNS + list(range(300, 320)), len(words)), words)))
    return tables


def family_of(members):
    """The family of the (name, table, mark) handed in."""
    family = Family()
    for name, table, mark in members:
        family.add(name, Code(table), mark)
    return family


def gone_so(one, other, text):
    """Point 21's own words on a leg of these two tables: (row, text read), or None where it cannot be gone."""
    row = written(one, text)
    texts = [] if row is None else readings(other, row)
    return (row, texts[0]) if texts else None


def some_families(seed, many, most=4):
    """So many lists of members by chance, of few signs, so that many ways can be gone."""
    chance = random.Random(seed)
    words = [(0,), (1,), (0, 0), (0, 1), (1, 0), (1, 1), (0, 0, 1), (1, 1, 1, 0)]
    for turn in range(many):
        members = []
        for name in chance.sample(["b", "a", "zz", "ab"], chance.randrange(most + 1)):
            table = []
            for sign in chance.sample([0, 1, 2], 3):
                word = chance.choice(words)
                if not any(begins(word, other) or begins(other, word) for strange, other in table):
                    table.append((sign, word))
            members.append((name, table, chance.choice([(), (0,), (1, 1)])))
        yield members


def texts_of(table, size):
    """All texts whose rows have so many bytes."""
    if size == 0:
        return [[]]
    return [[sign] + rest for sign, word in table if len(word) <= size for rest in texts_of(table, size - len(word))]


def originals_by_entries(one, other, size):
    """For each entries (a tuple) that texts of so many bytes come out as: the rising list of these texts."""
    found = {}
    for text in sorted(texts_of(one, size)):
        found.setdefault(tuple(spill_so(other, written(one, text))), []).append(text)
    return found


def some_small_tables(seed, many, alphabet=(0, 1), most=4, longest=4):
    """So many tables by chance, of few pairs, none of them at odds, and of few bytes, so that words often meet."""
    chance = random.Random(seed)
    tables = []
    for turn in range(many):
        table = []
        for sign in chance.sample([0, 1, 2, 5, 7, 9, 10, 10 ** 9], chance.randrange(most + 1)):
            word = tuple(chance.choice(alphabet) for byte in range(chance.randrange(1, longest + 1)))
            if not any(begins(word, other) or begins(other, word) for strange, other in table):
                table.append((sign, word))
        tables.append(table)
    return tables


def head_so(table, part):
    """(entry, size) of the entry with which these bytes begin for certain; None where bytes to come may change it."""
    for sign, word in table:
        if begins(word, part):
            return (sign, len(word))
    return None if any(begins(part, word) for sign, word in table) else (None, 1)


def state_so(other, one_row, other_row, unlike):
    """Point 29's own words, over the whole rows of the two texts: their state, or None where they are given up."""
    longer, shorter = sorted([tuple(one_row), tuple(other_row)], key=len, reverse=True)
    place = 0
    while place < len(shorter):
        heads = [head_so(other, row[place:len(shorter)]) for row in (longer, shorter)]
        if None in heads:
            break
        if heads[0] != heads[1]:
            return None
        place += heads[0][1]
    parts = (longer[place:len(shorter)], shorter[place:])
    if len(longer) == len(shorter):
        parts = (min(parts), max(parts))
    return (longer[len(shorter):], parts[0], parts[1], unlike)


def next_texts(one, texts):
    """The pairs of texts that are laid side by side next."""
    signs = [sign for sign, word in one]
    if texts[0] == texts[1]:
        return [(texts[0] + [first], texts[1] + [second]) for first in signs for second in signs]
    sizes = [len(written(one, text)) for text in texts]
    told = [(texts[0] + [sign], texts[1]) for sign in signs if sizes[0] <= sizes[1]]
    return told + [(texts[0], texts[1] + [sign]) for sign in signs if sizes[1] <= sizes[0]]


def states_so(one, other):
    """(states, whether one of them is an end): those that are reached, each by the first two texts that come to it."""
    found = {}
    waiting = [([], [])]
    while waiting:
        further = []
        for texts in waiting:
            rows = [written(one, text) for text in texts]
            state = state_so(other, rows[0], rows[1], texts[0] != texts[1])
            if state is not None and state not in found:
                found[state] = state[3] and state[0] == () and spill_so(other, state[1]) == spill_so(other, state[2])
                further += next_texts(one, texts)
        waiting = further
    return (sorted(found), any(found.values()))


def check_refused(case, ask, refusal, *fields):
    """Asks twice, and sees that it is refused by this name, by SkewError and by ValueError, and by no other one."""
    others = [thing for thing in vars(errors).values() if isinstance(thing, type) and thing is not errors.SkewError]
    for turn in range(2):
        with case.assertRaises(ValueError) as caught:
            ask()
        case.assertIsInstance(caught.exception, errors.SkewError)
        case.assertEqual([thing for thing in others if isinstance(caught.exception, thing)], [refusal])
        case.assertEqual(tuple(vars(caught.exception).values()), fields)

"""What several tests need: tables, and the document's words on writing and reading, told without the program."""

import itertools
import random

SIGNS = [0, 1, 9, 10, 65, 255, 256, 7000, 10 ** 9 - 1, 10 ** 9]


def begins(start, whole):
    return list(whole[:len(start)]) == list(start)


def rows_of(alphabet, longest):
    """All rows of these bytes, fewer bytes first, then in Python's order."""
    for size in range(longest + 1):
        for row in itertools.product(sorted(alphabet), repeat=size):
            yield list(row)


def some_table(chance, alphabet, most, signs=None):
    """A table by chance, of at most so many pairs, none of them at odds."""
    words = [tuple(row) for row in rows_of(alphabet, 4) if row]
    signs = list(signs or SIGNS + list(range(300, 320)))
    chance.shuffle(signs)
    table = []
    for turn in range(chance.randrange(most + 1)):
        word = tuple(chance.choice(words)[:chance.choice([1, 2, 2, 3, 4])])
        if signs and not any(begins(word, other) or begins(other, word) for sign, other in table):
            table.append((signs.pop(), word))
    return table


def some_tables(seed, many, alphabet=(0, 7, 255), most=8, signs=None):
    """So many tables, the same ones for the same seed."""
    chance = random.Random(seed)
    return [some_table(chance, alphabet, most, signs) for turn in range(many)]


def full_table(shift=0):
    """A table of twenty-four pairs, of words of each size, that begin alike."""
    words = [(byte + shift,) for byte in range(6)]
    words += [(200, byte + shift) for byte in range(6)]
    words += [(200, 199, byte + shift) for byte in range(6)]
    words += [(200, 199, 198, byte + shift) for byte in range(6)]
    return [(place * 40000000, word) for place, word in enumerate(words)]


def written(table, text):
    """The row of the text, or None where a sign lacks."""
    words = dict(table)
    if any(sign not in words for sign in text):
        return None
    return [byte for sign in text for byte in words[sign]]


def readings(table, row):
    """All texts that are written as this row, whatever the table."""
    if len(row) == 0:
        return [[]]
    return [[sign] + rest for sign, word in table if begins(word, row) for rest in readings(table, row[len(word):])]


def furthest(table, row):
    """The furthest place to which words lead from the row's beginning on."""
    return max([0] + [len(word) + furthest(table, row[len(word):]) for sign, word in table if begins(word, row)])


def spilt_so(table, row):
    """Point 12, from the place 0 on."""
    told = []
    place = 0
    while place < len(row):
        found = [(sign, word) for sign, word in table if begins(word, row[place:])]
        told.append((place, found[0][0] if found else None))
        place += len(found[0][1]) if found else 1
    return told

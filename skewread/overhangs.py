"""The overhangs of a table, which show whether some row is read in two ways."""


def rest_between(one, other):
    """The bytes by which the longer one goes on behind the shorter one; None where that does not begin it."""
    shared = min(len(one), len(other))
    if one[:shared] != other[:shared]:
        return None
    return one[shared:] + other[shared:]


def first_rests(words):
    """The rests between each two of the words."""
    found = []
    for place, word in enumerate(words):
        found.extend(rests_between(word, words[:place]))
    return found


def rests_between(part, words):
    """The rests between the part and each of the words."""
    rests = [rest_between(part, word) for word in words]
    return [rest for rest in rests if rest is not None]


def overhangs(table):
    """The rising list of the least set with the rests between two words, and between a member, but (), and a word."""
    words = [word for sign, word in table]
    found = {}
    waiting = first_rests(words)
    while len(waiting) > 0:
        rest = waiting.pop()
        if rest not in found:
            found[rest] = True
            if rest != ():
                waiting.extend(rests_between(rest, words))
    return sorted(found)


def shows_one_way(table, some):
    """Whether the list has all overhangs of the table and () is none of these: then no row is read in two ways."""
    asked = overhangs(table)
    return () not in asked and all([rest in some for rest in asked])

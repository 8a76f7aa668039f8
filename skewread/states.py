"""Papers that all texts of a code, read in another code, come out unlike."""

from skewread.more8 import walked


def state_paper(one, other):
    """The rising list of all states of two texts side by side; None where two unlike texts come out alike."""
    found = walked(one, other)
    return sorted(found[0]) if found[1] is None else None


def shows_apart(one, other, states):
    """Whether the list has all states of two texts side by side and none of these is an end: all come out unlike."""
    found = walked(one, other)
    listed = dict([(state, True) for state in states])
    return found[1] is None and all([state in listed for state in found[0]])

"""Pairs of codes: what of the one the other does not read, and which texts of the one come out alike in the other."""

from skewread.losses import lost_places
from skewread.more8 import walked


def unread_sign(one, other):
    """The least sign of code one whose word code other does not read; None where it reads every one."""
    return min([sign for sign, word in one.table() if len(lost_places(other, word)) > 0], default=None)


def merging(one, other):
    """Two unlike texts of code one, of the fewest signs together, that come out alike in code other; None."""
    texts = walked(one, other)[1]
    return None if texts is None else (min(texts), max(texts))

"""What becomes of the texts of a family's codes, each read in each other one."""

from skewread.mendings import unlike_legs
from skewread.pairs import merging, unread_sign


def verdict(one, other):
    """The word for what becomes of the texts of code one, read in code other."""
    if unread_sign(one, other) is None:
        return "whole"
    return "apart" if merging(one, other) is None else "merging"


def verdicts(family):
    """The list of (name, name, word) for each two unlike names, by their places in the family."""
    legs = unlike_legs(family.names())
    return [(first, second, verdict(family.code(first), family.code(second))) for first, second in legs]

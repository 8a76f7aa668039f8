"""What may be handed in: signs, bytes, words and names."""

GREATEST_SIGN = 1000000000
GREATEST_BYTE = 255
LONGEST_WORD = 4
LONGEST_NAME = 8
LETTERS = "abcdefghijklmnopqrstuvwxyz"


def is_whole(thing):
    """Whether the thing is a whole number; Python counts truths among the ints, the document does not."""
    return isinstance(thing, int) and not isinstance(thing, bool)


def is_sign(thing):
    """Whether the thing is a sign."""
    return is_whole(thing) and 0 <= thing <= GREATEST_SIGN


def is_byte(thing):
    """Whether the thing is a byte."""
    return is_whole(thing) and 0 <= thing <= GREATEST_BYTE


def is_word(thing):
    """Whether the thing is a word, a tuple of one to four bytes."""
    if not isinstance(thing, tuple):
        return False
    return 1 <= len(thing) <= LONGEST_WORD and all([is_byte(part) for part in thing])


def is_name(thing):
    """Whether the thing is a name, a line of one to eight small letters."""
    if not isinstance(thing, str):
        return False
    return 1 <= len(thing) <= LONGEST_NAME and all([letter in LETTERS for letter in thing])

"""Texts written in a code."""

from skewread.errors import NoSign


def write(code, text):
    """The row of the signs' words, one behind the other; NoSign(at) at the first sign that the code lacks."""
    row = []
    for place, sign in enumerate(text):
        word = code.word(sign)
        if word is None:
            raise NoSign(place)
        row.extend(word)
    return row


def lacking(code, text):
    """The rising list of the places of the signs that the code lacks."""
    return [place for place, sign in enumerate(text) if code.word(sign) is None]

"""Point 7: lines read back, and lines that show nothing."""

import random
import re
import unittest

from skewread.errors import NoShown
from skewread.lines import read_entries, read_row, read_text, show_entries, show_row, show_text

STRANGE = ["A", "F", "G", "g", "a", " ", "\n", "/", "\\", "|", "-", "_", ".", ",", "?", "0", "1", "9", "%", "\t", "+",
           "\u00e9", "\u00b2", "\u0663", "\uff11", "\u0000"]
READERS = [read_row, read_text, read_entries]
SHOWS = {read_row: show_row, read_text: show_text, read_entries: show_entries}


def shows_row(line):
    return line == "-" or re.fullmatch("(?:[0-9a-f]{2}){1,800}", line) is not None


def shows_listed(line, most, lost):
    parts = line.split(".")
    return line == "-" or len(parts) <= most and all(
        part in lost or re.fullmatch("0|[1-9][0-9]{0,9}", part) is not None and int(part) <= 10 ** 9 for part in parts)


def shows(read, line):
    """Whether the line shows something, told without the program."""
    if read == read_row:
        return shows_row(line)
    return shows_listed(line, 200, ()) if read == read_text else shows_listed(line, 800, ("?",))


def may_begin(read, start):
    """Whether some line that shows something begins so: if any does, so little behind it makes it one."""
    return any(shows(read, start + behind) for behind in ("", "-", "0"))


def longest_beginning(read, line):
    """Point 7's own words, by halves: what begins a beginning is one itself."""
    least, most = 0, len(line)
    while least < most:
        size = (least + most + 1) // 2
        if may_begin(read, line[:size]):
            least = size
        else:
            most = size - 1
    return least


class Shown(unittest.TestCase):

    def check(self, read, line):
        """The line is read back, or refused just where its longest beginning ends."""
        if shows(read, line):
            self.assertEqual(SHOWS[read](read(line)), line)
        else:
            self.refused(read, line, longest_beginning(read, line))

    def refused(self, read, line, at):
        with self.assertRaises(NoShown) as caught:
            read(line)
        self.assertEqual(caught.exception.at, at, (read.__name__, line))

    def test_what_was_shown_is_read_back(self):
        for many in (0, 1, 2, 3, 199, 200):
            text = [place * 5000001 % (10 ** 9 + 1) for place in range(many)]
            self.assertEqual(read_text(show_text(text)), text)
        for many in (0, 1, 2, 3, 200, 201, 799, 800):
            row = [place * 7 % 256 for place in range(many)]
            self.assertEqual(read_row(show_row(row)), row)
            entries = [None if place % 3 == 1 else place * 1250000 for place in range(many)]
            self.assertEqual(read_entries(show_entries(entries)), entries)

    def test_edges_read_back(self):
        self.assertEqual([read_row(f"{byte:02x}") for byte in range(256)], [[byte] for byte in range(256)])
        for sign in (0, 9, 10, 99, 100, 999999999, 10 ** 9):
            self.assertEqual(read_text(str(sign)), [sign])
            self.assertEqual(read_entries(str(sign)), [sign])
            self.assertEqual(read_text(f"{sign}.0.{sign}"), [sign, 0, sign])
            self.assertEqual(read_entries(f"?.{sign}.?"), [None, sign, None])
        text = [10 ** 9] * 200
        self.assertEqual(read_text(show_text(text)), text)
        for entries in ([10 ** 9] * 800, [None] * 800):
            self.assertEqual(read_entries(show_entries(entries)), entries)

    def test_each_told_list_is_new(self):
        for read, line in ((read_row, "-"), (read_row, "0102"), (read_text, "-"), (read_text, "1.2"),
                           (read_entries, "-"), (read_entries, "1.?")):
            told = read(line)
            kept = list(told)
            again = read(line)
            self.assertIsInstance(told, list)
            told.append(7)
            self.assertEqual(again, kept)
            self.assertEqual(read(line), kept)

    def test_the_documents_own_examples(self):
        for read in READERS:
            self.refused(read, "", 0)
            self.refused(read, "-0", 1)
        self.refused(read_row, "a", 1)
        for read in (read_text, read_entries):
            self.refused(read, "00", 1)
            self.refused(read, "1.", 2)
            self.refused(read, "1000000001", 9)
            self.refused(read, "10000000000", 10)

    def test_more_than_may_be_handed_in(self):
        for many in (801, 802, 900, 1000):
            self.refused(read_row, "a7" * many, 1600)
            self.refused(read_entries, ".".join(["?"] * many), 1599)
            self.refused(read_entries, ".".join(["123"] * many), 3199)
        self.refused(read_row, "a7" * 800 + "a", 1600)
        self.refused(read_row, "a7" * 800 + "-", 1600)
        self.refused(read_row, "a7" * 799 + "a", 1599)
        for many in (201, 202, 800):
            self.refused(read_text, ".".join(["5"] * many), 399)
            self.refused(read_text, ".".join(["1000000000"] * many), 2199)
        self.refused(read_text, "5." * 199, 398)
        self.refused(read_text, "5." * 200, 399)
        self.refused(read_entries, "5." * 799, 1598)
        self.refused(read_entries, "5." * 800, 1599)

    def test_texts_have_no_lost_bytes(self):
        self.refused(read_text, "?", 0)
        self.refused(read_text, "1.?", 2)
        self.refused(read_text, "1?", 1)
        self.refused(read_entries, "1?", 1)
        self.refused(read_entries, "?1", 1)
        self.refused(read_entries, "??", 1)
        self.refused(read_entries, "?.", 2)

    def test_all_short_lines(self):
        lines = [""]
        for size in range(4):
            lines = [line + letter for line in lines for letter in "0159af-.? A"]
            for read in READERS:
                for line in lines:
                    self.check(read, line)

    def test_figures_around_the_greatest_sign(self):
        for figures in ("999999999", "1000000000", "1000000001", "1000000010", "1000000100", "1100000000", "2000000000",
                        "9999999999", "10000000000", "99999999999", "0000000001", "01", "1" * 30, "0" * 30, "9" * 5000):
            for ahead in ("", "0.", "1000000000.", "?.", "7"):
                for behind in ("", ".", ".0", ".00", "?", "-"):
                    for read in READERS:
                        self.check(read, ahead + figures + behind)

    def test_strange_signs_at_any_place(self):
        for read, line in ((read_row, "00a1ff09"), (read_text, "0.12.1000000000.7"), (read_text, "5"),
                           (read_entries, "0.?.1000000000.?"), (read_entries, "?"), (read_row, "-"), (read_text, "-"),
                           (read_entries, "-")):
            for place in range(len(line) + 1):
                self.check(read, line[:place] + line[place + 1:])
                for letter in STRANGE:
                    self.check(read, line[:place] + letter + line[place:])
                    self.check(read, line[:place] + letter + line[place + 1:])

    def test_strange_signs_in_long_lines(self):
        chance = random.Random(7)
        row = show_row([chance.randrange(256) for place in range(800)])
        text = show_text([chance.randrange(10 ** chance.randrange(10)) for place in range(200)])
        entries = show_entries([None if place % 5 == 0 else place for place in range(800)])
        for read, line in ((read_row, row), (read_text, text), (read_entries, entries)):
            for turn in range(10):
                place = chance.randrange(len(line))
                letter = chance.choice(STRANGE)
                self.check(read, line[:place] + letter + line[place:])
                self.check(read, line[:place] + letter + line[place + 1:])
                self.check(read, line[:place] + line[place + 1:])

    def test_the_same_refusal_again(self):
        for read in READERS:
            for line in ("", "-0", "x"):
                told = []
                for turn in range(2):
                    with self.assertRaises(NoShown) as caught:
                        read(line)
                    told.append(caught.exception.at)
                self.assertEqual(told[0], told[1])


if __name__ == "__main__":
    unittest.main()

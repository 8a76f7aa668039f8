"""Point 7: rows, texts and entries as lines."""

import unittest

from skewread.lines import show_entries, show_row, show_text

SIGNS = [0, 1, 9, 10, 11, 99, 100, 255, 1000, 10 ** 9 - 1, 10 ** 9]


class Showing(unittest.TestCase):

    def test_of_none(self):
        for show in (show_row, show_text, show_entries):
            self.assertEqual(show([]), "-")

    def test_each_byte(self):
        for byte in range(256):
            self.assertEqual(show_row([byte]), "{:02x}".format(byte))

    def test_rows(self):
        self.assertEqual(show_row([0]), "00")
        self.assertEqual(show_row([0, 10, 160, 255, 1]), "000aa0ff01")
        self.assertEqual(show_row(list(range(256))), bytes(range(256)).hex())

    def test_texts(self):
        self.assertEqual(show_text([0]), "0")
        self.assertEqual(show_text([10 ** 9]), "1000000000")
        self.assertEqual(show_text([0, 9, 10, 10 ** 9, 0]), "0.9.10.1000000000.0")
        for sign in SIGNS:
            self.assertEqual(show_text([sign, sign]), "{0}.{0}".format(sign))

    def test_entries(self):
        self.assertEqual(show_entries([None]), "?")
        self.assertEqual(show_entries([None, None]), "?.?")
        self.assertEqual(show_entries([0, None, 10, None, 10 ** 9]), "0.?.10.?.1000000000")
        self.assertEqual(show_entries([None, 0]), "?.0")
        self.assertEqual(show_entries(SIGNS), ".".join(str(sign) for sign in SIGNS))

    def test_to_a_thousand_things(self):
        for many in (199, 200, 201, 799, 800, 801, 999, 1000):
            row = [place * 7 % 256 for place in range(many)]
            self.assertEqual(show_row(row), bytes(row).hex())
            text = [SIGNS[place % len(SIGNS)] for place in range(many)]
            self.assertEqual(show_text(text), ".".join(str(sign) for sign in text))
            entries = [None if place % 3 == 0 else place for place in range(many)]
            self.assertEqual(show_entries(entries), ".".join("?" if entry is None else str(entry) for entry in entries))

    def test_the_handed_list_stays_and_the_same_is_told_again(self):
        for show, things in ((show_row, [1, 0, 255]), (show_text, [5, 0, 10 ** 9]), (show_entries, [None, 5, None])):
            handed = list(things)
            line = show(handed)
            self.assertEqual(handed, things)
            self.assertEqual(show(handed), line)
            handed.append(7)
            self.assertEqual(show(things), line)


if __name__ == "__main__":
    unittest.main()

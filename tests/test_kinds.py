"""Points 2 and 6: what is a sign, a byte, a word, a name."""

import unittest

from skewread.kinds import is_byte, is_name, is_sign, is_word

FAR = 10 ** 60
NO_NUMBERS = [True, False, None, "", "0", "7", 0.0, 1.0, 1.5, b"a", [], [1], (), (1,), {}, {1: 1}, set(), object()]
NO_BYTES = [-1, 256, FAR, True, False, None, "1", "", 1.0, (1,), (), [1], {}]


class Kinds(unittest.TestCase):

    def check(self, tells, thing, told):
        answer = tells(thing)
        self.assertIs(answer, told, f"{tells.__name__} of {thing!r}")

    def test_signs(self):
        for number in (0, 1, 9, 10, 255, 256, 10 ** 9 - 1, 10 ** 9):
            self.check(is_sign, number, True)
        for number in (-1, -255, -10 ** 9, -FAR, 10 ** 9 + 1, 10 ** 10, FAR):
            self.check(is_sign, number, False)
        for thing in NO_NUMBERS:
            self.check(is_sign, thing, False)

    def test_bytes(self):
        for number in range(256):
            self.check(is_byte, number, True)
        for number in (-FAR, -256, -255, -1, 256, 257, 10 ** 9, FAR):
            self.check(is_byte, number, False)
        for thing in NO_NUMBERS:
            self.check(is_byte, thing, False)

    def test_words_by_size(self):
        for size in range(7):
            self.check(is_word, tuple(range(size)), 1 <= size <= 4)
            self.check(is_word, (0,) * size, 1 <= size <= 4)
            self.check(is_word, (255,) * size, 1 <= size <= 4)

    def test_words_of_one_thing_amiss_at_any_place(self):
        for size in range(1, 7):
            for place in range(size):
                for thing in NO_BYTES:
                    parts = [7] * size
                    parts[place] = thing
                    self.check(is_word, tuple(parts), False)

    def test_words_are_tuples(self):
        for thing in ([], [1], [1, 2, 3, 4], ((1, 2),), ((1,), (2,)), {1: 2}, {}, None, 0, 1, True, False, FAR,
                      "", "a", "abcd", b"ab", b"", {1, 2}, range(2), object()):
            self.check(is_word, thing, False)

    def test_names_by_size(self):
        for size in range(20):
            self.check(is_name, "a" * size, 1 <= size <= 8)
            self.check(is_name, "z" * size, 1 <= size <= 8)
            self.check(is_name, "qwertyuiopasdfghjklz"[:size], 1 <= size <= 8)

    def test_names_of_each_letter(self):
        for number in range(0x250):
            self.check(is_name, chr(number), "a" <= chr(number) <= "z")

    def test_names_of_one_letter_amiss_at_any_place(self):
        for size in range(1, 10):
            for place in range(size):
                for letter in "AZ09 ._-`{\n\t?\u00e9\u0430\uff41\u00df":
                    self.check(is_name, "a" * place + letter + "a" * (size - place - 1), False)

    def test_names_are_lines(self):
        for thing in (None, True, False, 0, 7, FAR, -FAR, (), ("a",), ("a", "b"), ["a"], [], {"a": 1}, {}, b"a",
                      {"a"}, object()):
            self.check(is_name, thing, False)

    def test_nothing_handed_in_is_changed(self):
        for tells in (is_sign, is_byte, is_word, is_name):
            things = [1, [2], "a"]
            tells(things)
            self.assertEqual(things, [1, [2], "a"])


if __name__ == "__main__":
    unittest.main()

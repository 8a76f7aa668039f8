"""Point 9: write and lacking."""

import random
import unittest

from helping import SIGNS, full_table, some_tables, written
from skewread.codes import Code
from skewread.errors import NoSign
from skewread.writing import lacking, write

TABLE = [(0, (0,)), (5, (255, 1)), (10 ** 9, (255, 2, 3, 4))]


class Writing(unittest.TestCase):

    def check(self, table, text):
        """The row, or the refusal at the first of the lacking places."""
        code = Code(table)
        handed = list(text)
        places = [place for place, sign in enumerate(text) if sign not in dict(table)]
        self.assertEqual(lacking(code, handed), places)
        if places:
            with self.assertRaises(NoSign) as caught:
                write(code, handed)
            self.assertEqual(caught.exception.at, places[0])
        else:
            self.assertEqual(write(code, handed), written(table, text))
        self.assertEqual(handed, text)
        self.assertEqual(code.table(), sorted(table, key=lambda pair: pair[1]))

    def test_words_one_behind_the_other(self):
        code = Code(TABLE)
        self.assertEqual(write(code, [0]), [0])
        self.assertEqual(write(code, [10 ** 9, 0, 5, 5]), [255, 2, 3, 4, 0, 255, 1, 255, 1])
        self.assertEqual(lacking(code, [10 ** 9, 0, 5, 5]), [])

    def test_the_text_of_none(self):
        for table in ([], TABLE):
            self.assertEqual(write(Code(table), []), [])
            self.assertEqual(lacking(Code(table), []), [])

    def test_lacking_signs(self):
        for text in ([1], [0, 1], [1, 0], [0, 5, 7, 0, 7, 9], [4, 4, 4], [10 ** 9 - 1, 10 ** 9], [6, 5, 0]):
            self.check(TABLE, text)
            self.check([], text)

    def test_one_lacking_sign_at_any_place(self):
        for size in range(1, 12):
            for place in range(size):
                text = [5] * size
                text[place] = 6
                self.check(TABLE, text)

    def test_long_texts(self):
        for size in (199, 200):
            self.check(TABLE, [10 ** 9] * size)
            self.check(TABLE, [5] * (size - 1) + [6])
            self.check(full_table(), [place % 24 * 40000000 for place in range(size)])
        self.assertEqual(len(write(Code(TABLE), [10 ** 9] * 200)), 800)

    def test_texts_by_chance(self):
        chance = random.Random(11)
        for table in some_tables(11, 200):
            signs = SIGNS + [sign for sign, word in table] * 5
            self.check(table, [chance.choice(signs) for place in range(chance.randrange(30))])
            if table:
                self.check(table, [chance.choice(table)[0] for place in range(chance.randrange(30))])

    def test_each_told_list_is_new(self):
        code = Code(TABLE)
        for tells, text in ((write, []), (write, [0]), (write, [5, 0]), (lacking, []), (lacking, [1, 2])):
            told = tells(code, text)
            kept = list(told)
            again = tells(code, text)
            told.append(9)
            self.assertEqual(again, kept)
            self.assertEqual(tells(code, text), kept)
            self.assertEqual(code.word(0), (0,))


if __name__ == "__main__":
    unittest.main()

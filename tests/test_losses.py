"""Point 12: spilt, spill, lost_places, carried."""

import itertools
import random
import unittest

from helping import SIGNS, full_table, rows_of, some_tables, spilt_so, written
from skewread.codes import Code
from skewread.errors import NoSign
from skewread.losses import carried, lost_places, spill, spilt

TABLE = [(0, (0,)), (5, (255, 1)), (10 ** 9, (255, 2, 3, 4)), (7, (3, 3))]


class Losses(unittest.TestCase):

    def check(self, table, row):
        code = Code(table)
        handed = list(row)
        told = spilt_so(table, row)
        self.assertEqual(spilt(code, handed), told, (table, row))
        self.assertEqual(spill(code, handed), [entry for place, entry in told])
        self.assertEqual(lost_places(code, handed), [place for place, entry in told if entry is None])
        self.assertEqual(handed, row)

    def test_of_none(self):
        for table in ([], TABLE):
            self.check(table, [])
        self.assertEqual(spilt(Code(TABLE), []), [])

    def test_the_code_of_none_loses_all(self):
        for size in (1, 2, 800):
            self.assertEqual(spilt(Code([]), [0] * size), [(place, None) for place in range(size)])
            self.assertEqual(spill(Code([]), [0] * size), [None] * size)
            self.assertEqual(lost_places(Code([]), [0] * size), list(range(size)))

    def test_nothing_lost(self):
        self.assertEqual(spilt(Code(TABLE), [0, 255, 1, 255, 2, 3, 4, 0]), [(0, 0), (1, 5), (3, 10 ** 9), (7, 0)])
        self.assertEqual(lost_places(Code(TABLE), [0, 255, 1, 255, 2, 3, 4, 0]), [])

    def test_bytes_lost_at_the_beginning_amid_and_at_the_end(self):
        for row, told in (
                ([9, 0, 0], [(0, None), (1, 0), (2, 0)]),
                ([0, 9, 0], [(0, 0), (1, None), (2, 0)]),
                ([0, 0, 9], [(0, 0), (1, 0), (2, None)]),
                ([9, 8, 255, 1, 9], [(0, None), (1, None), (2, 5), (4, None)])):
            self.assertEqual(spilt(Code(TABLE), row), told)
            self.check(TABLE, row)

    def test_words_cut_short(self):
        for row, told in (
                ([255], [(0, None)]),
                ([255, 2], [(0, None), (1, None)]),
                ([0, 255, 2, 3], [(0, 0), (1, None), (2, None), (3, None)]),
                ([255, 2, 0], [(0, None), (1, None), (2, 0)])):
            self.assertEqual(spilt(Code(TABLE), row), told)
            self.check(TABLE, row)

    def test_words_that_begin_behind_a_lost_byte_of_a_word_begun(self):
        for row, told in (
                ([255, 255, 1], [(0, None), (1, 5)]),
                ([255, 2, 3, 3], [(0, None), (1, None), (2, 7)]),
                ([255, 2, 3, 255, 2, 3, 4], [(0, None), (1, None), (2, None), (3, 10 ** 9)]),
                ([3, 255, 2, 3, 3, 3], [(0, None), (1, None), (2, None), (3, 7), (5, None)]),
                ([255, 0, 1], [(0, None), (1, 0), (2, None)])):
            self.assertEqual(spilt(Code(TABLE), row), told)
            self.check(TABLE, row)

    def test_all_short_rows(self):
        for table in [TABLE] + some_tables(41, 60):
            for row in rows_of((0, 7, 255), 5):
                self.check(table, row)
        for row in rows_of((1, 2, 3, 4, 255), 5):
            self.check(TABLE, row)

    def test_long_rows(self):
        chance = random.Random(42)
        for turn in range(5):
            self.check(TABLE, [chance.choice([0, 1, 2, 3, 4, 255]) for place in range(800)])
            self.check(full_table(), [chance.choice([0, 5, 198, 199, 200, 200]) for place in range(800)])
        self.check(TABLE, [255, 2, 3] * 266)
        self.check(TABLE, [255, 2, 3, 4] * 200)

    def test_each_told_list_is_new(self):
        code = Code(TABLE)
        for tells in (spilt, spill, lost_places):
            for row in ([], [0, 9], [255, 1]):
                told = tells(code, row)
                kept = list(told)
                again = tells(code, row)
                told.append(9)
                self.assertEqual(again, kept)
                self.assertEqual(tells(code, row), kept)


class Carried(unittest.TestCase):

    def check(self, one, other, text):
        handed = list(text)
        codes = Code(one), Code(other)
        row = written(one, text)
        if row is None:
            with self.assertRaises(NoSign) as caught:
                carried(codes[0], codes[1], handed)
            self.assertEqual(caught.exception.at, [sign in dict(one) for sign in text].index(False))
        else:
            told = [entry for place, entry in spilt_so(other, row)]
            self.assertEqual(carried(codes[0], codes[1], handed), told)
        self.assertEqual(handed, text)

    def test_into_the_same_code(self):
        code = Code(TABLE)
        for size in range(5):
            for text in itertools.product([0, 5, 7, 10 ** 9], repeat=size):
                self.assertEqual(carried(code, code, list(text)), list(text))
                self.assertEqual(carried(code, Code(TABLE[::-1]), list(text)), list(text))

    def test_into_another_code(self):
        one = Code([(1, (195, 164)), (2, (65,))])
        other = Code([(10, (195,)), (11, (65,))])
        self.assertEqual(carried(one, other, [1, 2, 1]), [10, None, 11, 10, None])
        self.assertEqual(carried(other, one, [10, 11, 10]), [None, 2, None])
        self.assertEqual(carried(one, Code([]), [2, 1]), [None, None, None])
        self.assertEqual(carried(one, other, []), [])
        self.assertEqual(carried(Code([]), other, []), [])

    def test_no_sign(self):
        for text in ([1], [0, 6], [0, 5, 8, 0, 9], [10 ** 9 - 1], [0] * 199 + [1]):
            self.check(TABLE, [(1, (1,))], text)
            self.check(TABLE, [], text)
            self.check([], TABLE, text)

    def test_codes_and_texts_by_chance(self):
        chance = random.Random(43)
        tables = some_tables(43, 150)
        for one, other in zip(tables, tables[1:]):
            for turn in range(4):
                self.check(one, other, [chance.choice(SIGNS) for place in range(chance.randrange(4))])
                if one:
                    self.check(one, other, [chance.choice(one)[0] for place in range(chance.randrange(40))])
        self.check(full_table(), full_table(1), [place % 24 * 40000000 for place in range(200)])

    def test_nothing_changes_and_each_told_list_is_new(self):
        one, other = Code(TABLE), Code([(1, (0,))])
        told = carried(one, other, [0, 5])
        self.assertEqual(told, [1, None, None])
        told.clear()
        self.assertEqual(carried(one, other, [0, 5]), [1, None, None])
        self.assertEqual((one.table(), other.table()), (Code(TABLE).table(), [(1, (0,))]))


if __name__ == "__main__":
    unittest.main()

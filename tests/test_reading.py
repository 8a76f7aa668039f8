"""Points 10 and 11: read and telling."""

import itertools
import random
import unittest

from helping import full_table, furthest, readings, rows_of, some_tables, written
from skewread.codes import Code
from skewread.errors import NoReading
from skewread.reading import read, telling

TABLE = [(0, (0,)), (5, (255, 1)), (10 ** 9, (255, 2, 3, 4))]


class Reading(unittest.TestCase):

    def check(self, table, row):
        """The text, or the refusal where words lead no further."""
        code = Code(table)
        handed = list(row)
        told = readings(table, row)
        if told:
            self.assertEqual([read(code, handed)], told, (table, row))
        else:
            self.refused(code, handed, furthest(table, row))
        self.assertEqual(handed, row)

    def refused(self, code, row, at):
        with self.assertRaises(NoReading) as caught:
            read(code, row)
        self.assertEqual(caught.exception.at, at, (code.table(), row))

    def test_what_is_written_is_read_back(self):
        code = Code(TABLE)
        for size in range(6):
            for text in itertools.product([0, 5, 10 ** 9], repeat=size):
                self.assertEqual(read(code, written(TABLE, list(text))), list(text))

    def test_the_row_of_none(self):
        self.assertEqual(read(Code(TABLE), []), [])
        self.assertEqual(read(Code([]), []), [])

    def test_the_code_of_none(self):
        for row in ([0], [255, 1], [7] * 800):
            self.refused(Code([]), row, 0)

    def test_no_reading(self):
        code = Code(TABLE)
        for row, at in (([1], 0), ([255], 0), ([255, 2], 0), ([255, 2, 3], 0), ([0, 255], 1), ([0, 0, 1, 0], 2),
                        ([255, 1, 255, 2, 3], 2), ([255, 2, 3, 4, 255, 1, 4], 6), ([255, 2, 3, 5, 0], 0), ([0, 254], 1)):
            self.refused(code, row, at)

    def test_rows_cut_put_in_left_out_and_changed(self):
        row = written(TABLE, [0, 5, 10 ** 9, 10 ** 9, 0, 5, 5])
        for place in range(len(row) + 1):
            self.check(TABLE, row[:place])
            self.check(TABLE, row[place:])
            self.check(TABLE, row[:place] + row[place + 1:])
            for byte in (0, 1, 2, 4, 9, 254, 255):
                self.check(TABLE, row[:place] + [byte] + row[place:])
                self.check(TABLE, row[:place] + [byte] + row[place + 1:])

    def test_all_short_rows(self):
        for table in some_tables(21, 60):
            for row in rows_of((0, 7, 255), 5):
                self.check(table, row)

    def test_long_rows(self):
        code = Code(TABLE)
        self.assertEqual(read(code, [0] * 800), [0] * 800)
        self.assertEqual(read(code, [255, 2, 3, 4] * 200), [10 ** 9] * 200)
        self.refused(code, [255, 2, 3, 4] * 199 + [255, 2, 3], 796)
        self.refused(code, [0] * 799 + [1], 799)
        self.refused(code, [0] * 799 + [255], 799)
        chance = random.Random(22)
        text = [chance.choice(full_table())[0] for place in range(200)]
        self.assertEqual(read(Code(full_table()), written(full_table(), text)), text)

    def test_each_told_list_is_new(self):
        code = Code(TABLE)
        for row in ([], [0], [255, 1, 0]):
            told = read(code, row)
            kept = list(told)
            again = read(code, row)
            told.append(9)
            self.assertEqual(again, kept)
            self.assertEqual(read(code, row), kept)


class Telling(unittest.TestCase):

    def check(self, one, other, longest=4):
        """The first row, of all in order, of which not the same texts are read; both ways alike."""
        alphabet = {byte for sign, word in one + other for byte in word} | {1}
        unlike = (row for row in rows_of(alphabet, longest) if readings(one, row) != readings(other, row))
        told = next(unlike, None)
        codes = Code(one), Code(other)
        self.assertEqual(telling(codes[0], codes[1]), told, (one, other))
        self.assertEqual(telling(codes[1], codes[0]), told, (one, other))

    def test_codes_of_the_same_pairs(self):
        for table in itertools.permutations(TABLE):
            self.assertIsNone(telling(Code(TABLE), Code(list(table))))
        self.assertIsNone(telling(Code([]), Code([])))
        self.assertIsNone(telling(Code(full_table()), Code(full_table()[::-1])))
        code = Code(TABLE)
        self.assertIsNone(telling(code, code))
        self.check([(1, (0,)), (2, (1, 1))], [(2, (1, 1)), (1, (0,))], 6)

    def test_one_sign_one_word_or_one_pair_otherwise(self):
        for place, (sign, word) in enumerate(TABLE):
            less = TABLE[:place] + TABLE[place + 1:]
            self.check(TABLE, less)
            self.check(TABLE, less + [(sign + 1, word)])
            self.check(TABLE, less + [(sign, word[:-1] + (6,))])
            self.check(TABLE, less + [(sign, (7,))])
            self.check(TABLE, TABLE + [(8, (7, 7))])
        table = full_table()
        for place, (sign, word) in enumerate(table):
            less = table[:place] + table[place + 1:]
            self.assertEqual(telling(Code(table), Code(less)), list(word))
            self.assertEqual(telling(Code(less), Code(table)), list(word))
            self.assertEqual(telling(Code(less + [(sign + 1, word)]), Code(table)), list(word))

    def test_the_least_by_fewer_bytes_then_by_order(self):
        self.assertEqual(telling(Code([(1, (0, 0)), (2, (9,))]), Code([])), [9])
        self.assertEqual(telling(Code([(1, (0, 0)), (2, (1, 0))]), Code([])), [0, 0])
        self.assertEqual(telling(Code([(1, (3,)), (2, (4,))]), Code([(1, (4,)), (2, (3,))])), [3])
        self.assertEqual(telling(Code([(1, (0, 0, 0, 1))]), Code([(1, (0, 0, 0, 0))])), [0, 0, 0, 0])
        self.assertEqual(telling(Code([(1, (255,))]), Code([(1, (0, 0))])), [255])
        self.assertEqual(telling(Code([(1, (5,)), (2, (6, 1))]), Code([(1, (5,)), (2, (6, 0))])), [6, 0])

    def test_codes_by_chance(self):
        tables = some_tables(31, 60, most=5, signs=[0, 4, 10 ** 9])
        for one, other in zip(tables, tables[1:]):
            self.check(one, other)

    def test_nothing_changes_and_each_told_list_is_new(self):
        one, other = Code(TABLE), Code([])
        told = telling(one, other)
        self.assertEqual(told, [0])
        told.append(5)
        self.assertEqual(telling(one, other), [0])
        self.assertEqual((one.table(), other.table()), (TABLE, []))


if __name__ == "__main__":
    unittest.main()

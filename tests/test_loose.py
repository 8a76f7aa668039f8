"""Point 18: reading_count and all_readings."""

import random
import unittest

from helping import check_refused, full_table, readings, rows_of, some_loose_tables, some_tables, written
from skewread.errors import TooMany
from skewread.loose import all_readings, reading_count

TWINS = [(5, (0,)), (3, (0,))]
NESTED = [(1, (0,)), (2, (0, 0)), (10 ** 9, (0, 0, 0, 0))]


class Loose(unittest.TestCase):

    def check(self, table, row):
        """The count, the rising list where it may be told, and the refusals."""
        texts = sorted(readings(table, row))
        handed, handed_row = list(table), list(row)
        self.assertEqual(reading_count(handed, handed_row), len(texts), (table, row))
        for most in {0, len(texts) - 1, len(texts), len(texts) + 1, 200}:
            if most < 0:
                continue
            if most < len(texts):
                check_refused(self, lambda: all_readings(handed, handed_row, most), TooMany, most)
            else:
                self.assertEqual(all_readings(handed, handed_row, most), texts)
        self.assertEqual((handed, handed_row), (table, row))

    def test_the_row_of_none(self):
        for table in ([], TWINS, NESTED, full_table()):
            self.assertEqual(reading_count(table, []), 1)
            self.assertEqual(all_readings(table, [], 1), [[]])
            self.assertEqual(all_readings(table, [], 200), [[]])
            check_refused(self, lambda: all_readings(table, [], 0), TooMany, 0)

    def test_the_table_of_none(self):
        self.assertEqual(reading_count([], [0]), 0)
        self.assertEqual(all_readings([], [0], 0), [])
        self.assertEqual(reading_count([], [0] * 800), 0)

    def test_words_that_are_the_same(self):
        self.assertEqual(reading_count(TWINS, [0, 0]), 4)
        self.assertEqual(all_readings(TWINS, [0, 0], 4), [[3, 3], [3, 5], [5, 3], [5, 5]])
        check_refused(self, lambda: all_readings(TWINS, [0, 0], 3), TooMany, 3)
        check_refused(self, lambda: all_readings(TWINS, [0, 0], 0), TooMany, 0)
        self.assertEqual(all_readings(TWINS, [0, 1], 0), [])

    def test_words_that_begin_one_another(self):
        self.assertEqual(reading_count(NESTED, [0] * 4), 6)
        self.assertEqual(all_readings(NESTED, [0] * 4, 6),
                         [[1, 1, 1, 1], [1, 1, 2], [1, 2, 1], [2, 1, 1], [2, 2], [10 ** 9]])
        self.assertEqual(reading_count(NESTED, [0] * 3 + [1]), 0)
        self.assertEqual(all_readings(NESTED, [0] * 3 + [1], 0), [])

    def test_rising_as_lists_whatever_the_tables_order(self):
        table = [(9, (0,)), (10, (0, 0)), (2, (0, 0, 0)), (100, (0,))]
        for turned in (table, table[::-1], table[2:] + table[:2]):
            told = all_readings(turned, [0] * 3, 200)
            self.assertEqual(told, sorted(told))
            self.check(turned, [0] * 3)

    def test_counts_greater_than_two_hundred(self):
        self.assertEqual(reading_count(TWINS, [0] * 800), 2 ** 800)
        check_refused(self, lambda: all_readings(TWINS, [0] * 800, 200), TooMany, 200)
        self.assertEqual(reading_count(TWINS, [0] * 8), 256)
        check_refused(self, lambda: all_readings(TWINS, [0] * 8, 200), TooMany, 200)
        self.assertEqual(len(all_readings(TWINS, [0] * 7, 200)), 128)
        many = [(sign, (0,)) for sign in range(24)]
        self.assertEqual(reading_count(many, [0] * 800), 24 ** 800)
        fibonacci = [1, 1]
        while len(fibonacci) < 801:
            fibonacci.append(fibonacci[-1] + fibonacci[-2])
        self.assertEqual(reading_count(NESTED[:2], [0] * 800), fibonacci[800])

    def test_exactly_two_hundred(self):
        table = [(sign, (0,)) for sign in range(10)] + [(sign, (1,)) for sign in range(10, 20)] + [(20, (2,)), (21, (2,))]
        self.assertEqual(reading_count(table, [0, 1, 2]), 200)
        told = all_readings(table, [0, 1, 2], 200)
        self.assertEqual((len(told), told[0], told[-1]), (200, [0, 10, 20], [9, 19, 21]))
        check_refused(self, lambda: all_readings(table, [0, 1, 2], 199), TooMany, 199)

    def test_long_rows_of_few_readings(self):
        table = [(1, (0,)), (2, (1,)), (3, (1,)), (4, (0, 0, 0, 9))]
        row = [1] * 7 + [0] * 793
        self.assertEqual(reading_count(table, row), 128)
        told = all_readings(table, row, 128)
        self.assertEqual((told[0], told[-1]), ([2] * 7 + [1] * 793, [3] * 7 + [1] * 793))
        self.assertEqual(told, sorted(told))
        self.assertEqual(all_readings(table, row + [9], 200)[0], [2] * 7 + [1] * 790 + [4])

    def test_ways_that_lead_to_nothing_are_many(self):
        row = [0] * 799 + [9]
        self.assertEqual(reading_count(TWINS, row), 0)
        self.assertEqual(all_readings(TWINS, row, 0), [])
        table = TWINS + [(7, (8, 9))]
        self.assertEqual(all_readings(table, [8, 9] + [8] + [0] * 600, 0), [])
        self.assertEqual(all_readings([(1, (0, 0, 0)), (2, (0, 0)), (3, (0,))], [0] * 300 + [1], 5), [])

    def test_all_short_rows(self):
        for table in some_loose_tables(81, 60) + some_tables(81, 20, alphabet=(0, 1)) + [TWINS, NESTED]:
            for row in rows_of((0, 1), 6):
                self.check(table, row)

    def test_what_is_written_is_among_the_readings(self):
        chance = random.Random(82)
        for table in some_loose_tables(82, 80, alphabet=(0, 1, 2), most=12):
            text = [chance.choice(table)[0] for place in range(chance.randrange(8))] if table else []
            row = written(table, text)
            count = reading_count(table, row)
            if count <= 200:
                self.assertIn(text, all_readings(table, row, count))
            self.assertGreaterEqual(count, 1)

    def test_told_lists_may_be_changed(self):
        told = all_readings(TWINS, [0, 0], 4)
        again = all_readings(TWINS, [0, 0], 4)
        for text in told:
            text.append(1)
        told.clear()
        self.assertEqual(again, [[3, 3], [3, 5], [5, 3], [5, 5]])
        self.assertEqual(all_readings(TWINS, [0, 0], 4), again)
        self.assertEqual(len({id(text) for text in again}), 4)


if __name__ == "__main__":
    unittest.main()

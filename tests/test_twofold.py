"""Point 20, and 5 (d): tables that read some row in two ways."""

import random
import unittest

from helping import full_table, rows_of, some_loose_tables, some_tables, written
from skewread.loose import all_readings, reading_count
from skewread.overhangs import overhangs, shows_one_way
from skewread.twofold import twofold


def grown(states, words):
    """The pairs of rests with a next word begun wherever one is at its end and the other is not."""
    found = set()
    waiting = list(states)
    while waiting:
        left, right = waiting.pop()
        if (left, right) not in found:
            found.add((left, right))
            if left == () and right != ():
                waiting += [(word, right) for word in words]
            if right == () and left != ():
                waiting += [(left, word) for word in words]
    return found


def fewest_bytes(table):
    """The size of the least row that is written by two texts, found byte by byte; None where there is none."""
    words = [word for sign, word in table]
    states = {(words[first], words[second]) for second in range(len(words)) for first in range(second)}
    seen = set()
    size = 0
    while states:
        states = grown(states, words) - seen
        if ((), ()) in states:
            return size
        seen |= states
        states = {(left[1:], right[1:]) for left, right in states if left and right and left[0] == right[0]}
        size += 1
    return None


def chain(links):
    """A table whose least row read in two ways has the bytes 0 to links."""
    return [(1, (0,)), (2, (0, 1))] + [(10 + link, (link, link + 1)) for link in range(1, links)] + [(3, (links,))]


def wide_chain(links):
    """A table whose least row read in two ways has the bytes 0 to 4 * links."""
    table = [(1, (0,)), (2, (4 * links,))]
    for byte in range(0, 4 * links, 4):
        table += [(10 + byte, tuple(range(byte, byte + 4))), (11 + byte, tuple(range(byte + 1, byte + 5)))]
    return table


class Twofold(unittest.TestCase):

    def check(self, table):
        """Two texts of the fewest bytes, or the overhangs show that there are none: never both, never neither."""
        handed = list(table)
        told = twofold(handed)
        self.assertEqual(twofold(handed), told)
        self.assertEqual(handed, table)
        size = fewest_bytes(table)
        self.assertIs(told is None, size is None, table)
        self.assertIs(shows_one_way(table, overhangs(table)), told is None)
        self.assertEqual(told is None, () not in overhangs(table))
        if told is not None:
            self.check_texts(table, told, size)
        return told

    def check_texts(self, table, told, size):
        self.assertIsInstance(told, tuple)
        self.assertEqual([list] * 2, [type(text) for text in told])
        self.assertLess(told[0], told[1])
        row = written(table, told[0])
        self.assertEqual((row, len(row)), (written(table, told[1]), size), table)
        if reading_count(table, row) <= 200:
            self.assertIn(told[1], all_readings(table, row, 200))

    def test_tables_that_read_in_one_way(self):
        for table in ([], [(1, (0,))], [(1, (0,)), (2, (0, 1))], [(1, (0,)), (2, (0, 1)), (3, (1, 1))],
                      [(1, (0, 1)), (2, (0, 1, 2, 3)), (3, (2,)), (4, (3, 4))], full_table()):
            self.assertIsNone(self.check(table))
        for table in some_tables(101, 40, most=20):
            self.assertIsNone(self.check(table))
            self.assertIsNone(self.check([(sign, word[::-1]) for sign, word in table]))

    def test_two_signs_with_one_word(self):
        self.assertEqual(twofold([(5, (0,)), (3, (0,))]), ([3], [5]))
        self.assertEqual(twofold([(3, (0,)), (5, (0,))]), ([3], [5]))
        self.assertEqual(twofold([(10 ** 9, (7, 7, 7, 7)), (2, (1,)), (0, (7, 7, 7, 7))]), ([0], [10 ** 9]))
        self.assertEqual(twofold([(1, (0, 0, 0)), (2, (0, 0, 0)), (3, (4, 4)), (6, (4, 4))]), ([3], [6]))

    def test_words_that_begin_one_another(self):
        self.assertEqual(twofold([(1, (0,)), (2, (0, 0))]), ([1, 1], [2]))
        self.assertEqual(twofold([(2, (0,)), (1, (0, 0))]), ([1], [2, 2]))
        self.assertEqual(twofold([(1, (0,)), (2, (0, 1)), (3, (1, 0))]), ([1, 3], [2, 1]))
        self.assertEqual(twofold([(9, (0,)), (2, (0, 1)), (3, (1,))]), ([2], [9, 3]))
        self.assertEqual(twofold([(1, (0, 0)), (2, (0, 0, 0))]), ([1, 2], [2, 1]))

    def test_fewer_bytes_ahead_of_fewer_signs(self):
        table = [(1, (9, 9, 9)), (2, (9, 9, 9)), (3, (1,)), (4, (1, 1))]
        self.assertEqual(self.check(table), ([3, 3], [4]))
        table = [(1, (9, 9, 9, 9)), (2, (9, 9, 9, 9)), (3, (1,)), (4, (1, 2)), (5, (2, 1))]
        self.assertEqual(self.check(table), ([3, 5], [4, 3]))

    def test_least_rows_that_are_long(self):
        for links in range(2, 23):
            self.assertEqual(written(chain(links), self.check(chain(links))[0]), list(range(links + 1)))
            self.assertIsNone(self.check(chain(links)[:-1]))
            self.assertIsNone(self.check(chain(links)[1:]))
        for links in range(1, 12):
            table = wide_chain(links)
            self.assertEqual(written(table, self.check(table)[0]), list(range(4 * links + 1)))
            self.assertEqual(written(table, self.check(table[::-1])[0]), list(range(4 * links + 1)))
            for place in range(len(table)):
                self.assertIsNone(self.check(table[:place] + table[place + 1:]))

    def test_rests_that_go_round_and_round(self):
        for table in ([(1, (0, 0, 0, 0)), (2, (0, 0, 0))], [(1, (0, 1, 0)), (2, (0, 1)), (3, (1, 0, 0)), (4, (0, 0, 1, 0))],
                      [(1, (0, 0, 0, 0)), (2, (0, 0, 0)), (3, (0, 0, 0, 1)), (4, (1, 0, 0, 0))]):
            self.check(table)
        self.assertEqual(twofold([(1, (0, 0, 0, 0)), (2, (0, 0, 0))]), ([1, 2], [2, 1]))

    def test_the_longest_among_many_tables(self):
        chance = random.Random(102)
        longest = 0
        for turn in range(1500):
            words = {tuple(chance.randrange(2) for byte in range(chance.choice([1, 2, 3, 4, 4]))) for pair in range(4)}
            table = list(enumerate(sorted(words)))
            told = self.check(table)
            longest = max(longest, 0 if told is None else len(written(table, told[0])))
        self.assertGreater(longest, 10)

    def test_tables_by_chance(self):
        for table in some_loose_tables(103, 400) + some_loose_tables(104, 200, alphabet=(0, 1, 2, 255), most=10):
            self.check(table)

    def test_tables_of_twenty_four_pairs(self):
        chance = random.Random(105)
        for turn in range(30):
            words = [tuple(chance.randrange(6) for byte in range(chance.choice([2, 3, 4, 4, 4]))) for pair in range(24)]
            self.check(list(zip(chance.sample(range(100), 24), words)))

    def test_small_tables_by_all_their_rows(self):
        for table in some_loose_tables(106, 150, most=4, longest=3):
            twice = [row for row in rows_of((0, 1), 9) if reading_count(table, row) > 1]
            if twice:
                self.assertEqual(len(written(table, twofold(table)[0])), len(twice[0]))
            else:
                told = twofold(table)
                self.assertTrue(told is None or len(written(table, told[0])) > 9)

    def test_told_lists_may_be_changed(self):
        table = [(1, (0,)), (2, (0, 0))]
        told, again = twofold(table), twofold(table)
        told[0].clear()
        told[1].append(9)
        self.assertEqual((again, twofold(table)), (([1, 1], [2]), ([1, 1], [2])))


if __name__ == "__main__":
    unittest.main()

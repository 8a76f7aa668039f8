"""Point 8: fault and Code."""

import itertools
import random
import unittest

from helping import begins, full_table, rows_of, some_tables
from skewread.codes import Code, fault
from skewread.errors import Begins, Twice

EDGES = [(10 ** 9, (255,)), (0, (0, 255, 0, 255)), (7, (0, 0)), (5, (0, 254, 9))]


def fault_so(table):
    """Point 8's own words."""
    odds = []
    for first, second in itertools.combinations(range(len(table)), 2):
        (sign, word), (other_sign, other_word) = table[first], table[second]
        if sign == other_sign:
            odds.append((second, first, "twice"))
        elif begins(word, other_word) or begins(other_word, word):
            odds.append((second, first, "begins"))
    if not odds:
        return None
    second, first, told = min(odds)
    return (told, first, second)


class Fault(unittest.TestCase):

    def check(self, table, told):
        handed = list(table)
        self.assertEqual(fault_so(table), told, table)
        self.assertEqual(fault(handed), told, table)
        self.assertEqual(fault(handed), told)
        if told is None:
            self.assertEqual(sorted(Code(handed).table()), sorted(table))
        else:
            with self.assertRaises(Twice if told[0] == "twice" else Begins) as caught:
                Code(handed)
            self.assertEqual((caught.exception.first, caught.exception.second), told[1:])
        self.assertEqual(handed, table)

    def test_tables_without_fault(self):
        self.check([], None)
        self.check([(0, (0,))], None)
        self.check([(10 ** 9, (255, 255, 255, 255))], None)
        self.check(EDGES, None)
        self.check(full_table(), None)
        self.assertEqual(len(full_table()), 24)
        self.check([(1, (1, 2)), (2, (2, 1)), (3, (1, 1, 2)), (4, (1, 3, 1, 2))], None)

    def test_a_sign_twice(self):
        self.check([(1, (1,)), (1, (2,))], ("twice", 0, 1))
        self.check([(0, (1,)), (2, (2,)), (0, (3,))], ("twice", 0, 2))
        self.check(full_table()[:23] + [(0, (99,))], ("twice", 0, 23))

    def test_a_word_twice_or_begun(self):
        self.check([(1, (1,)), (2, (1,))], ("begins", 0, 1))
        self.check([(1, (1,)), (2, (1, 0))], ("begins", 0, 1))
        self.check([(1, (1, 0)), (2, (1,))], ("begins", 0, 1))
        self.check([(1, (0, 1, 2, 3)), (2, (5,)), (3, (0, 1, 2))], ("begins", 0, 2))
        self.check([(1, (0, 1, 2)), (2, (5,)), (3, (0, 1, 2, 3))], ("begins", 0, 2))
        self.check(full_table()[:23] + [(5, (200,))], ("begins", 6, 23))
        self.check([(5, (200,))] + full_table()[7:23], ("begins", 0, 1))

    def test_twice_ahead_of_begins_for_the_same_two(self):
        self.check([(1, (1,)), (1, (1,))], ("twice", 0, 1))
        self.check([(1, (1,)), (1, (1, 2))], ("twice", 0, 1))
        self.check([(1, (1, 2)), (1, (1,))], ("twice", 0, 1))

    def test_the_least_later_pair_then_the_least_earlier_one(self):
        self.check([(1, (1,)), (2, (2,)), (3, (2,)), (1, (4,))], ("begins", 1, 2))
        self.check([(1, (1,)), (2, (2,)), (2, (4,)), (3, (1,))], ("twice", 1, 2))
        self.check([(1, (1,)), (2, (2,)), (2, (1, 5))], ("begins", 0, 2))
        self.check([(1, (1, 1)), (2, (2,)), (1, (2, 5))], ("twice", 0, 2))
        self.check([(1, (1, 1)), (2, (1, 2)), (3, (3,)), (4, (1,))], ("begins", 0, 3))
        self.check([(1, (1,)), (2, (2,)), (3, (3,)), (3, (2,)), (1, (9,))], ("begins", 1, 3))

    def test_all_small_tables(self):
        pairs = [(sign, word) for sign in (0, 4) for word in ((1,), (1, 0), (2,), (2, 1, 0))]
        for size in range(4):
            for table in itertools.product(pairs, repeat=size):
                self.check(list(table), fault_so(table))

    def test_tables_by_chance(self):
        chance = random.Random(5)
        for turn in range(500):
            table = [(chance.randrange(40), tuple(chance.randrange(6) for byte in range(chance.randrange(1, 5))))
                     for pair in range(chance.randrange(25))]
            self.check(table, fault_so(table))


class Codes(unittest.TestCase):

    def test_of_none(self):
        code = Code([])
        self.assertEqual((code.table(), code.signs(), code.longest()), ([], [], 0))
        self.assertIsNone(code.word(0))
        self.assertIsNone(code.sign((0,)))
        self.assertIsNone(code.sign(()))
        self.assertIs(code.live([]), False)
        self.assertIs(code.live([0]), False)
        self.assertIs(code.same(Code([])), True)
        self.assertIs(code.same(Code(EDGES)), False)

    def test_table_by_rising_words(self):
        rising = [(0, (0, 255, 0, 255)), (7, (0, 0)), (5, (0, 254, 9)), (10 ** 9, (255,))]
        rising = [rising[1], rising[2], rising[0], rising[3]]
        for table in itertools.permutations(EDGES):
            self.assertEqual(Code(list(table)).table(), rising)
            self.assertEqual(Code(list(table)).signs(), [0, 5, 7, 10 ** 9])
        self.assertEqual(Code(full_table()[::-1]).table(), full_table())
        for table in some_tables(1, 60, most=24):
            code = Code(table)
            words = [word for sign, word in code.table()]
            self.assertEqual(words, sorted(words))
            self.assertEqual(sorted(code.table()), sorted(table))
            self.assertEqual(code.signs(), sorted(sign for sign, word in table))

    def test_word_and_sign(self):
        for table in [EDGES, full_table()] + some_tables(2, 40):
            code = Code(table)
            for sign in [0, 1, 9, 10 ** 9] + [sign for sign, word in table]:
                self.assertEqual(code.word(sign), dict(table).get(sign))
            words = {word: sign for sign, word in table}
            strange = [(), (3,), (255, 255), (0, 0, 0, 0, 0)] + [word + (0,) for word in words]
            strange += [word[:size] for word in words for size in range(len(word))]
            for word in strange + list(words):
                self.assertEqual(code.sign(word), words.get(word))

    def test_longest(self):
        for size in range(1, 5):
            self.assertEqual(Code([(1, (7,)), (2, (8,) * size)]).longest(), size)
            self.assertEqual(Code([(2, (8,) * size), (1, (7,))]).longest(), size)
        self.assertEqual(Code(full_table()).longest(), 4)

    def test_same(self):
        table = full_table()
        code = Code(table)
        self.assertIs(code.same(code), True)
        self.assertIs(code.same(Code(table[::-1])), True)
        self.assertIs(code.same(Code(table[5:] + table[:5])), True)
        for place, (sign, word) in enumerate(table):
            less = table[:place] + table[place + 1:]
            for other in (less, less + [(sign + 1, word)], less + [(sign, word[:-1] + (99,))]):
                self.assertIs(code.same(Code(other)), False)
                self.assertIs(Code(other).same(code), False)
        swapped = [(table[1][0], table[0][1]), (table[0][0], table[1][1])] + table[2:]
        self.assertIs(code.same(Code(swapped)), False)

    def test_live(self):
        for table in [EDGES] + some_tables(3, 60):
            code = Code(table)
            for row in rows_of((0, 7, 255), 5):
                told = any(len(row) < len(word) and begins(row, word) for sign, word in table)
                self.assertIs(code.live(row), told, (table, row))
        code = Code(full_table())
        for row, told in (([], True), ([200], True), ([200, 199], True), ([200, 199, 198], True), ([0], False),
                          ([200, 0], False), ([200, 199, 198, 0], False), ([200, 199, 198, 0, 0], False), ([199], False),
                          ([201], False), ([200] * 800, False), ([0] * 800, False)):
            handed = list(row)
            self.assertIs(code.live(handed), told, row)
            self.assertEqual(handed, row)

    def test_a_code_never_changes(self):
        table = full_table()
        handed = list(table)
        code = Code(handed)
        for turn in range(2):
            handed.clear()
            self.assertEqual((code.table(), code.longest()), (table, 4))
            told, signs = code.table(), code.signs()
            kept = list(signs)
            told.clear()
            signs.append(5)
            self.assertEqual((code.table(), code.signs()), (table, kept))
            self.assertIs(code.same(Code(table)), True)
            self.assertEqual(code.word(table[9][0]), table[9][1])
            self.assertEqual(code.sign(table[9][1]), table[9][0])
            self.assertIs(code.live([200]), True)
            handed.append((1, (1,)))

    def test_told_lists_stay_when_others_are_told(self):
        code = Code(EDGES)
        first, second = code.table(), code.table()
        first.reverse()
        self.assertEqual(second, code.table())
        first, second = code.signs(), code.signs()
        first.clear()
        self.assertEqual(second, code.signs())


if __name__ == "__main__":
    unittest.main()

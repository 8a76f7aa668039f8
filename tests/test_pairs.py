"""Points 27 and 28, and of 5 (g) the two texts of the fewest signs: unread_sign, merging."""

import itertools
import unittest

from helping import full_table, next_texts, readings, some_small_tables, some_tables, spill_so, state_so, written
from skewread.codes import Code
from skewread.losses import carried
from skewread.originals import all_originals
from skewread.pairs import merging, unread_sign
from skewread.states import state_paper

BITS = [(1, (0,)), (2, (1,))]
WIDE = [(0, (2, 0, 0, 1)), (1, (0, 1, 2)), (2, (2, 2, 0)), (3, (1, 2, 1)), (4, (0, 1, 0, 1)), (5, (2, 1, 0, 0)),
        (6, (0, 2, 0, 0)), (7, (0, 1, 1, 2))]
WIDE_OTHER = [(0, (1, 2)), (1, (2, 2, 0, 0)), (2, (0, 1, 2, 0)), (3, (0, 1, 0, 1)), (4, (2, 0, 0)), (5, (1, 1)),
              (6, (0, 0, 1, 2)), (7, (1, 0, 0))]
MANY = [(0, (4, 4, 4)), (1, (2, 2)), (2, (1, 4, 0, 0)), (3, (4, 1, 3, 2)), (4, (3, 2, 1, 2)), (5, (3, 0, 2, 4)),
        (6, (2, 3, 2, 3)), (7, (4, 3, 3))]
MANY_OTHER = [(0, (4, 4, 1)), (1, (2,)), (2, (4, 0, 0, 2)), (3, (3, 2, 3, 0)), (4, (0, 0, 1, 4)), (5, (3, 3)),
              (6, (3, 2, 2, 1)), (7, (1, 2, 1))]


def fewest_among(one, other, most):
    """The fewest signs together of two unlike texts, of so many signs each at most, that come out alike; None."""
    sizes = {}
    for size in range(most + 1):
        for text in itertools.product([sign for sign, word in one], repeat=size):
            sizes.setdefault(tuple(spill_so(other, written(one, text))), []).append(size)
    return min((found[0] + found[1] for found in sizes.values() if len(found) > 1), default=None)


def fewest_so(one, other):
    """The fewest signs together, by the steps of point 29 with whole rows, two texts for each state and as many signs."""
    seen = set()
    levels = {0: [([], [])]}
    for size in itertools.count():
        if not levels:
            return None
        for texts in levels.pop(size, []):
            rows = [written(one, text) for text in texts]
            state = state_so(other, rows[0], rows[1], texts[0] != texts[1])
            if state is None or state in seen:
                continue
            seen.add(state)
            if texts[0] != texts[1] and spill_so(other, rows[0]) == spill_so(other, rows[1]):
                return size
            for further in next_texts(one, texts):
                levels.setdefault(len(further[0]) + len(further[1]), []).append(further)


class Unread(unittest.TestCase):

    def check(self, one, other):
        told = unread_sign(Code(one), Code(other))
        unread = [sign for sign, word in one if not readings(other, list(word))]
        self.assertEqual(told, min(unread, default=None), (one, other))
        return told

    def test_by_hand(self):
        self.assertIsNone(self.check([], []))
        self.assertIsNone(self.check([], BITS))
        self.assertIsNone(self.check(BITS, BITS))
        self.assertEqual(self.check(BITS, []), 1)
        self.assertEqual(self.check(BITS[::-1], []), 1)
        self.assertEqual(self.check(BITS, [(7, (0,))]), 2)
        self.assertIsNone(self.check([(5, (0, 1, 1, 0)), (6, (1, 0, 0, 0))], BITS))
        self.assertEqual(self.check([(5, (0, 1, 1, 0)), (6, (1, 0, 0, 2))], BITS), 6)
        self.assertEqual(self.check([(10, (0, 1)), (9, (0, 0)), (8, (1,))], [(1, (0, 1)), (2, (1,))]), 9)
        self.assertEqual(self.check([(0, (3,)), (10 ** 9, (0, 1))], BITS), 0)
        self.assertEqual(self.check([(0, (0, 0)), (10 ** 9, (0, 2))], BITS), 10 ** 9)
        self.assertEqual(self.check([(4, (0,))], [(4, (0, 0))]), 4)

    def test_codes_by_chance(self):
        seen = {True: 0, False: 0}
        for one, other in zip(some_small_tables(161, 800, most=8), some_small_tables(162, 800, most=8)):
            seen[self.check(one, other) is None] += len(one) > 0
        self.assertGreater(min(seen.values()), 40)

    def test_then_no_byte_is_lost(self):
        for one, other in zip(some_small_tables(163, 300, most=6), some_small_tables(164, 300, most=8)):
            if unread_sign(Code(one), Code(other)) is None:
                for size in range(4):
                    for text in itertools.product([sign for sign, word in one], repeat=size):
                        self.assertNotIn(None, carried(Code(one), Code(other), list(text)))


class Merging(unittest.TestCase):

    def check(self, one, other):
        """Two texts that come out alike, and none where the paper shows that there are none: never both, never neither."""
        codes = (Code(one), Code(other))
        told = merging(codes[0], codes[1])
        self.assertEqual(merging(codes[0], codes[1]), told)
        self.assertIs(told is None, state_paper(codes[0], codes[1]) is not None, (one, other))
        if told is not None:
            self.assertIs(type(told), tuple)
            self.assertEqual([type(text) for text in told], [list, list])
            self.assertLess(told[0], told[1])
            rows = [written(one, text) for text in told]
            self.assertEqual(spill_so(other, rows[0]), spill_so(other, rows[1]), (one, other))
        return told

    def check_fewest(self, one, other):
        told = self.check(one, other)
        fewest = fewest_so(one, other)
        self.assertEqual(None if told is None else len(told[0]) + len(told[1]), fewest, (one, other))
        return told

    def test_by_hand(self):
        self.assertEqual(self.check_fewest(BITS, []), ([1], [2]))
        self.assertEqual(self.check_fewest(BITS[::-1], [(5, (7,))]), ([1], [2]))
        self.assertEqual(self.check_fewest([(1, (0,)), (2, (1, 2))], [(5, (0, 3))]), ([1, 1], [2]))
        self.assertEqual(self.check_fewest([(2, (0,)), (1, (1, 2))], [(5, (0, 3))]), ([1], [2, 2]))
        self.assertEqual(self.check_fewest([(3, (0, 0, 0, 0)), (9, (1, 1, 1))], []), ([3, 9], [9, 3]))
        self.assertEqual(self.check_fewest([(3, (0, 0, 0, 0)), (9, (1, 1))], []), ([3], [9, 9]))

    def test_a_beginning_that_both_texts_need(self):
        one = [(1, (0,)), (2, (1, 2)), (3, (1, 3))]
        self.assertEqual(self.check_fewest(one, [(5, (0, 1)), (6, (1, 2)), (7, (1, 3))]), ([1, 2], [1, 3]))
        one = [(4, (0,)), (5, (8, 1)), (2, (1, 2)), (3, (1, 3))]
        other = [(5, (0, 8)), (6, (1, 1)), (7, (1, 2)), (8, (1, 3)), (9, (8, 1))]
        self.assertEqual(self.check_fewest(one, other), ([4, 5, 2], [4, 5, 3]))

    def test_a_beginning_of_both_against_more_signs_behind(self):
        for one, other in (
                ([(2, (0, 1, 0, 0)), (0, (1,)), (10, (0, 0, 1, 1))],
                 [(9, (1, 1, 0)), (5, (1, 1, 1)), (10, (0, 0, 0, 0)), (2, (0, 0, 1))]),
                ([(7, (0, 1)), (1, (0, 0, 1)), (9, (1, 1, 1)), (10, (1, 1, 0))],
                 [(2, (1, 0)), (1, (0, 1, 0, 0)), (0, (1, 1, 1, 1)), (10, (0, 0))]),
                ([(5, (0, 0, 0, 0)), (10, (1, 0, 1)), (0, (0, 0, 1, 1)), (2, (0, 1, 1)), (1, (1, 1, 1))],
                 [(5, (0, 1, 0)), (10, (1, 0, 1)), (9, (0, 1, 1)), (1, (1, 0, 0)), (0, (1, 1, 0))])):
            told = self.check_fewest(one, other)
            self.assertEqual([len(text) for text in told], [3, 3])
            self.assertEqual(told[0][:2], told[1][:2])

    def test_none(self):
        for one in ([], [(1, (0,))], [(7, (0, 1, 0, 1))]):
            for other in ([], BITS, [(3, (0, 0)), (4, (1, 0, 1))], full_table()):
                self.assertIsNone(self.check_fewest(one, other))
        self.assertIsNone(self.check_fewest(BITS, [(5, (0, 0)), (6, (1,))]))
        self.assertIsNone(self.check_fewest([(1, (0,)), (2, (1, 1))], BITS))

    def test_a_code_with_itself(self):
        for table in some_small_tables(165, 60, most=8) + some_tables(165, 60, most=8):
            self.assertIsNone(self.check_fewest(table, table))
            self.assertIsNone(self.check(table, table[::-1] + [(77, (9, 9))]))

    def test_all_pairs_of_small_texts(self):
        found = {True: 0, False: 0}
        for one, other in zip(some_small_tables(166, 260, most=4, longest=3), some_small_tables(167, 260, most=5)):
            most = 7 if len(one) < 3 else 5
            told = self.check(one, other)
            fewest = fewest_among(one, other, most)
            if fewest is not None and fewest <= most + 2:
                self.assertEqual(len(told[0]) + len(told[1]), fewest, (one, other))
            else:
                self.assertTrue(told is None or len(told[0]) + len(told[1]) > most + 2, (one, other))
            found[told is None] += len(one) > 1
        self.assertGreater(min(found.values()), 40)

    def test_codes_by_chance(self):
        longest = 0
        pairs = list(zip(some_small_tables(168, 500, most=8), some_small_tables(169, 500, most=8)))
        pairs += list(zip(some_small_tables(170, 200, alphabet=(0, 1, 2), most=8),
                          some_small_tables(171, 200, alphabet=(0, 1, 2), most=8)))
        for one, other in pairs:
            told = self.check_fewest(one, other)
            longest = max(longest, 0 if told is None else len(told[0]) + len(told[1]))
        self.assertGreater(longest, 6)

    def test_codes_of_eight_signs(self):
        told = self.check_fewest(WIDE, WIDE_OTHER)
        self.assertEqual(len(told[0]) + len(told[1]), 19)
        told = self.check_fewest(MANY, MANY_OTHER)
        self.assertEqual(len(told[0]) + len(told[1]), 13)
        self.assertIsNone(self.check_fewest(WIDE, WIDE))
        self.check_fewest(WIDE_OTHER, WIDE)
        self.check_fewest(MANY_OTHER, MANY)
        self.assertEqual(self.check(full_table()[:8], full_table()[8:16]), ([0], [40000000]))

    def test_somewhat_more_than_eight_signs(self):
        self.check_fewest(full_table()[:12], full_table(1)[3:14])
        self.assertEqual(len(self.check(full_table(), [])), 2)

    def test_the_originals_of_what_merges(self):
        for one, other in zip(some_small_tables(172, 150, most=5, longest=3), some_small_tables(173, 150, most=5)):
            told = merging(Code(one), Code(other))
            if told is not None and len(written(one, told[0])) <= 8:
                entries = spill_so(other, written(one, told[0]))
                originals = all_originals(Code(one), Code(other), entries, 200)
                self.assertIn(told[0], originals)
                self.assertIn(told[1], originals)

    def test_told_lists_may_be_changed(self):
        one, other = Code(BITS), Code([])
        told, again = merging(one, other), merging(one, other)
        told[0].clear()
        told[1].append(9)
        self.assertEqual((again, merging(one, other)), (([1], [2]), ([1], [2])))


if __name__ == "__main__":
    unittest.main()

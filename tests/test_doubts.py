"""Point 26, and of 5 (f) the signs that all originals have: doubts, sure_signs, open_places."""

import itertools
import random
import unittest

from helping import check_refused, full_table, originals_by_entries, some_small_tables, some_tables, spill_so, written
from skewread.codes import Code
from skewread.doubts import doubts, open_places, sure_signs
from skewread.errors import NoOriginal
from skewread.originals import all_originals, original_count

BITS = [(2, (0,)), (1, (1,))]
SINGLE = [(sign, (sign,)) for sign in range(24)]


def placed(table, text):
    """The (place, sign) of the text's signs, places of bytes."""
    words = dict(table)
    return [(sum(len(words[sign]) for sign in text[:number]), text[number]) for number in range(len(text))]


def doubts_so(one, originals):
    """Point 26's own words, over all originals."""
    found = [pair for text in originals for pair in placed(one, text)]
    return [(place, sign, found.count((place, sign))) for place, sign in sorted(set(found))]


def sure_so(one, originals):
    return [pair for pair in placed(one, originals[0]) if all(pair in placed(one, text) for text in originals)]


def open_so(one, originals):
    sure = sure_so(one, originals)
    words = dict(one)
    return [place for place in range(len(written(one, originals[0])))
            if not any(first <= place < first + len(words[sign]) for first, sign in sure)]


class Doubts(unittest.TestCase):

    def check(self, one, other, entries, originals):
        """All that is told of entries whose originals are these, in their order."""
        codes = (Code(one), Code(other))
        handed = list(entries)
        self.assertEqual(doubts(codes[0], codes[1], handed), doubts_so(one, originals), (one, other, entries))
        if originals:
            self.assertEqual(sure_signs(codes[0], codes[1], handed), sure_so(one, originals), (one, other, entries))
            self.assertEqual(open_places(codes[0], codes[1], handed), open_so(one, originals), (one, other, entries))
        else:
            check_refused(self, lambda: sure_signs(codes[0], codes[1], handed), NoOriginal)
            check_refused(self, lambda: open_places(codes[0], codes[1], handed), NoOriginal)
        self.assertEqual(handed, list(entries))

    def test_by_hand(self):
        one, other = Code(BITS), Code([(9, (0, 0)), (8, (1, 0, 1))])
        self.assertEqual(doubts(one, other, [None, None]), [(0, 1, 2), (0, 2, 1), (1, 1, 2), (1, 2, 1)])
        self.assertEqual(sure_signs(one, other, [None, None]), [])
        self.assertEqual(open_places(one, other, [None, None]), [0, 1])
        self.assertEqual(doubts(one, other, [None, 9]), [(0, 1, 1), (1, 2, 1), (2, 2, 1)])
        self.assertEqual(sure_signs(one, other, [None, 9]), [(0, 1), (1, 2), (2, 2)])
        self.assertEqual(open_places(one, other, [None, 9]), [])
        self.assertEqual(doubts(one, other, [9, None]), [(0, 2, 2), (1, 2, 2), (2, 1, 1), (2, 2, 1)])
        self.assertEqual(sure_signs(one, other, [9, None]), [(0, 2), (1, 2)])
        self.assertEqual(open_places(one, other, [9, None]), [2])

    def test_places_are_those_of_bytes(self):
        one = [(7, (0, 0, 0, 0)), (3, (1,)), (10, (2,))]
        other = [(5, (0, 0)), (6, (0, 1))]
        self.check(one, other, [5, 5, None, 5, 5], [[7, 3, 7], [7, 10, 7]])
        self.assertEqual(doubts(Code(one), Code(other), [5, 5, None, 5, 5]), [(0, 7, 2), (4, 3, 1), (4, 10, 1), (5, 7, 2)])
        self.assertEqual(sure_signs(Code(one), Code(other), [5, 5, None, 5, 5]), [(0, 7), (5, 7)])
        self.assertEqual(open_places(Code(one), Code(other), [5, 5, None, 5, 5]), [4])

    def test_the_same_sign_at_unlike_places_is_not_sure(self):
        one = [(1, (0,)), (2, (1, 1))]
        self.check(one, [], [None] * 3, [[1, 1, 1], [1, 2], [2, 1]])
        self.assertEqual(doubts(Code(one), Code([]), [None] * 3), [(0, 1, 2), (0, 2, 1), (1, 1, 1), (1, 2, 1), (2, 1, 2)])
        self.assertEqual(open_places(Code(one), Code([]), [None] * 3), [0, 1, 2])

    def test_entries_of_none(self):
        for one, other in itertools.product(([], BITS, full_table()), repeat=2):
            self.check(one, other, [], [[]])
            self.assertEqual(sure_signs(Code(one), Code(other), []), [])
            self.assertEqual(open_places(Code(one), Code(other), []), [])

    def test_where_there_is_no_original(self):
        for one, other in itertools.product(([], BITS, full_table()), repeat=2):
            for entries in ([77], [77, None], [None, 77], [10 ** 9, 1, 77], [None] * 39 + [77], [77] * 40):
                self.check(one, other, entries, [])
        self.check(BITS, [(9, (0,)), (8, (1,))], [9, None, 8], [])
        self.check([(2, (0,))], [(9, (0, 0)), (8, (0, 1))], [None, 9], [])
        self.check([(2, (0, 0, 0, 0))], [], [None] * 7, [])
        self.check([], [], [None], [])

    def test_one_original_is_all_sure(self):
        for table in some_small_tables(141, 30) + [full_table()]:
            for text in ([sign for sign, word in table], [sign for sign, word in table[::-1]], []):
                self.check(table, table, text, [text])
                self.assertEqual(sure_signs(Code(table), Code(table), text), placed(table, text))
                self.assertEqual(open_places(Code(table), Code(table), text), [])

    def test_all_originals_listed_one_by_one(self):
        seen = [0, 0]
        pairs = list(zip(some_small_tables(142, 250, most=8), some_small_tables(143, 250, most=6)))
        pairs += list(zip(some_small_tables(144, 60, alphabet=(0, 1, 2), most=8, longest=3),
                          some_small_tables(145, 60, alphabet=(0, 1, 2), most=8)))
        for one, other in pairs:
            for size in range(7):
                for entries, originals in originals_by_entries(one, other, size).items():
                    self.check(one, other, list(entries), originals)
                    seen[0] += len(originals) > 1
                    seen[1] += len(originals) > 1 and len(sure_so(one, originals)) > 0
        self.assertGreater(seen[0], 300)
        self.assertGreater(seen[1], 100)

    def test_what_came_out(self):
        chance = random.Random(146)
        tables = some_tables(146, 60, most=12)
        for one, other in zip(tables, tables[::-1]):
            for turn in range(6 if one else 0):
                text = [chance.choice(one)[0] for place in range(chance.randrange(9))]
                entries = spill_so(other, written(one, text))
                if original_count(Code(one), Code(other), entries) <= 200:
                    self.check(one, other, entries, all_originals(Code(one), Code(other), entries, 200))
                self.assertLessEqual(set(sure_signs(Code(one), Code(other), entries)), set(placed(one, text)))

    def test_very_many_originals(self):
        told = doubts(Code(SINGLE), Code([]), [None] * 40)
        self.assertEqual(told, [(place, sign, 24 ** 39) for place in range(40) for sign in range(24)])
        self.assertEqual(sure_signs(Code(SINGLE), Code([]), [None] * 40), [])
        self.assertEqual(open_places(Code(SINGLE), Code([]), [None] * 40), list(range(40)))
        other = Code([(9, (0, 1))])
        told = doubts(Code(BITS), other, [None] * 40)
        self.assertEqual(told, [line for place in range(40) for line in ((place, 1, 40 - place), (place, 2, place + 1))])
        entries = [9] * 13 + [None] * 13 + [9] * 14
        self.assertEqual(doubts(Code(BITS), other, entries)[:3], [(0, 2, 14), (1, 1, 14), (2, 2, 14)])
        self.assertEqual(sure_signs(Code(BITS), other, entries)[:26], [(place, 2 - place % 2) for place in range(26)])
        self.assertEqual(open_places(Code(BITS), other, entries), list(range(26, 39)))
        wide = [(sign, (sign % 5, sign % 4, sign % 3, 7)) for sign in range(24)]
        told = doubts(Code(SINGLE), Code(wide), [None] * 40)
        sums = [sum(count for first, sign, count in told if first == place) for place in range(40)]
        self.assertEqual(sums, [original_count(Code(SINGLE), Code(wide), [None] * 40)] * 40)

    def test_handed_lists_may_be_changed_behind_and_told_ones_too(self):
        one, other = Code(BITS), Code([(9, (0, 0))])
        for ask, told in ((doubts, [(0, 2, 2), (1, 2, 2), (2, 1, 1), (2, 2, 1)]), (sure_signs, [(0, 2), (1, 2)]),
                          (open_places, [2])):
            entries = [9, None]
            first, second = ask(one, other, entries), ask(one, other, entries)
            entries.clear()
            first.clear()
            self.assertEqual(second, told)
            self.assertEqual(ask(one, other, [9, None]), told)
            self.assertTrue(all(isinstance(part, (tuple, int)) for part in second))


if __name__ == "__main__":
    unittest.main()

"""Points 24 and 25, and of 5 (f) the counts and the least: original_count, least_original, all_originals."""

import itertools
import random
import unittest

from helping import (check_refused, full_table, originals_by_entries, some_small_tables, some_tables, spill_so, texts_of,
                     written)
from skewread.codes import Code
from skewread.errors import NoOriginal, TooMany
from skewread.losses import carried
from skewread.originals import all_originals, least_original, original_count

BITS = [(2, (0,)), (1, (1,))]
FOUR = [(4, (0,)), (3, (1,)), (2, (2,)), (1, (3,))]
SINGLE = [(sign, (sign,)) for sign in range(24)]


def counts_of_sizes(sizes, most):
    """How many texts have 0, 1, .. bytes, where there is a word of each of these sizes."""
    counts = [1]
    for size in range(1, most + 1):
        counts.append(sum(counts[size - word] for word in sizes if word <= size))
    return counts


class Originals(unittest.TestCase):

    def check(self, one, other, entries, originals):
        """All that is told of entries whose originals are these, in their order."""
        codes = (Code(one), Code(other))
        handed = list(entries)
        self.assertEqual(original_count(codes[0], codes[1], handed), len(originals), (one, other, entries))
        if originals:
            self.assertEqual(least_original(codes[0], codes[1], handed), originals[0], (one, other, entries))
        else:
            check_refused(self, lambda: least_original(codes[0], codes[1], handed), NoOriginal)
        for most in {0, 1, len(originals) - 1, len(originals), len(originals) + 1, 200} - {-1}:
            if most < len(originals):
                check_refused(self, lambda: all_originals(codes[0], codes[1], handed, most), TooMany, most)
            else:
                self.assertEqual(all_originals(codes[0], codes[1], handed, most), originals, (one, other, entries))
        self.assertEqual(handed, list(entries))

    def test_by_hand(self):
        other = [(9, (0, 0)), (8, (1, 0, 1))]
        self.check(BITS, other, [9], [[2, 2]])
        self.check(BITS, other, [8], [[1, 2, 1]])
        self.check(BITS, other, [None], [[1], [2]])
        self.check(BITS, other, [None, None], [[1, 1], [1, 2], [2, 1]])
        self.check(BITS, other, [9, None], [[2, 2, 1], [2, 2, 2]])
        self.check(BITS, other, [None, 9], [[1, 2, 2]])
        self.check(BITS, other, [None, 8], [[1, 1, 2, 1], [2, 1, 2, 1]])
        self.check(BITS, other, [None, None, 9], [[1, 1, 2, 2], [2, 1, 2, 2]])
        self.check(BITS, other, [8, 9, 8], [[1, 2, 1, 2, 2, 1, 2, 1]])
        self.check([(1, (0,)), (3, (1, 0)), (2, (1, 1))], other, [8, None], [[3, 2], [3, 3]])
        self.check([(1, (0,)), (3, (1, 0)), (2, (1, 1))], other, [8], [])

    def test_a_word_that_would_stand_over_signs_behind_a_lost_byte(self):
        other = [(9, (0, 1, 2, 3)), (8, (1, 2))]
        told = [[first, 3, 2, last] for first in (1, 2, 3, 4) for last in (1, 2, 3, 4) if (first, last) != (4, 1)]
        self.check(FOUR, other, [None, 8, None], told)
        self.check(FOUR, other, [None, 8], [[first, 3, 2] for first in (1, 2, 3, 4)])
        self.check(FOUR, other, [9], [[4, 3, 2, 1]])
        other = [(9, (0, 1, 2)), (8, (1, 2, 2)), (7, (2, 0)), (6, (3,))]
        told = [list(text) for text in itertools.product((2, 3, 4), repeat=4)
                if not any(text[place:place + 3] in ((4, 3, 2), (3, 2, 2)) for place in range(2))
                and not any(text[place:place + 2] == (2, 4) for place in range(3))]
        self.check(FOUR, other, [None] * 4, told)

    def test_entries_of_none(self):
        for one, other in itertools.product(([], BITS, full_table()), repeat=2):
            self.check(one, other, [], [[]])

    def test_signs_that_code_other_lacks(self):
        for one, other in itertools.product(([], BITS, full_table()), repeat=2):
            for entries in ([77], [77, None], [None, 77], [10 ** 9, 1, 77], [None] * 39 + [77], [77] * 40):
                self.check(one, other, entries, [])

    def test_entries_that_nothing_comes_out_as(self):
        self.check(BITS, [(9, (0, 0)), (8, (5,))], [8], [])
        self.check(BITS, [(9, (0,)), (8, (1,))], [None], [])
        self.check(BITS, [(9, (0,)), (8, (1,))], [9, None, 8], [])
        self.check(BITS, [(9, (0, 0)), (8, (0, 1))], [None, 9], [[1, 2, 2]])
        self.check([(2, (0,))], [(9, (0, 0)), (8, (0, 1))], [None, 9], [])
        self.check([(2, (0, 0, 0, 0))], [], [None] * 3, [])
        self.check([(2, (0, 0, 0, 0))], [], [None] * 4, [[2]])
        self.check([(2, (0, 0, 0, 0))], [(9, (0,))], [9] * 6, [])

    def test_codes_of_none(self):
        for size in (1, 2, 7, 40):
            self.check([], [], [None] * size, [])
            self.check([], BITS, [None] * size, [])
            self.check([], BITS, [1] * size, [])
        table = [(3, (0,)), (1, (1, 1)), (2, (2, 2, 2)), (5, (3, 3, 3, 3))]
        for size in range(6):
            self.check(table, [], [None] * size, sorted(texts_of(table, size)))

    def test_a_code_with_itself(self):
        for table in some_small_tables(131, 30) + [full_table()]:
            for text in ([sign for sign, word in table] + [sign for sign, word in table[::-1]], []):
                if len(text) <= 40:
                    self.check(table, table, text, [text])

    def test_all_texts_listed_one_by_one(self):
        seen = 0
        pairs = list(zip(some_small_tables(132, 300, most=8), some_small_tables(133, 300, most=6)))
        pairs += list(zip(some_small_tables(134, 60, alphabet=(0, 1, 2), most=8, longest=3),
                          some_small_tables(135, 60, alphabet=(0, 1, 2), most=8)))
        for one, other in pairs:
            for size in range(7):
                for entries, originals in originals_by_entries(one, other, size).items():
                    self.check(one, other, list(entries), originals)
                    seen += len(originals) > 1
        self.assertGreater(seen, 500)

    def test_all_entries_gone_through(self):
        seen = 0
        for one, other in zip(some_small_tables(136, 40, longest=3), some_small_tables(137, 40, longest=3)):
            words = dict(other)
            found = [originals_by_entries(one, other, size) for size in range(7)]
            for size in range(4):
                for entries in itertools.product([None, 77] + list(words), repeat=size):
                    many = sum(len(words.get(entry, [0])) for entry in entries)
                    if many < len(found):
                        told = found[many].get(entries, [])
                        self.assertEqual(original_count(Code(one), Code(other), list(entries)), len(told))
                        seen += len(told) == 0
        self.assertGreater(seen, 500)

    def test_too_many(self):
        one, other = Code(FOUR), Code([(9, (0, 0))])
        told = all_originals(one, other, [None] * 3, 200)
        self.assertEqual(told, sorted(text for text in texts_of(FOUR, 3) if text[:2] != [4, 4] and text[1:] != [4, 4]))
        for most in (0, 1, len(told) - 1):
            check_refused(self, lambda: all_originals(one, other, [None] * 3, most), TooMany, most)
        self.assertEqual(all_originals(one, other, [None] * 3, len(told)), told)
        for most in (0, 200):
            check_refused(self, lambda: all_originals(one, other, [None] * 40, most), TooMany, most)

    def test_the_greatest_lists(self):
        table = [(place, (place, 9)) for place in range(10)] + [(100 + place, (20 + place,)) for place in range(10)]
        self.assertEqual(all_originals(Code(table), Code([]), [None] * 2, 200), sorted(texts_of(table, 2)))
        self.assertEqual(original_count(Code(table), Code([]), [None] * 2), 110)
        fifty = SINGLE[:14] + [(500 + place, (100, place)) for place in range(4)]
        self.assertEqual(len(all_originals(Code(fifty), Code([]), [None] * 2, 200)), 200)
        check_refused(self, lambda: all_originals(Code(fifty), Code([]), [None] * 2, 199), TooMany, 199)

    def test_very_many_originals(self):
        self.assertEqual(original_count(Code(SINGLE), Code([]), [None] * 40), 24 ** 40)
        self.assertEqual(least_original(Code(SINGLE), Code([]), [None] * 40), [0] * 40)
        self.assertEqual(original_count(Code(BITS), Code([(9, (0, 1))]), [None] * 40), 41)
        self.assertEqual(least_original(Code(BITS), Code([(9, (0, 1))]), [None] * 40), [1] * 40)
        self.assertEqual(least_original(Code(BITS), Code([(9, (1, 1))]), [None] * 40), [1, 2] * 20)
        fibonacci = counts_of_sizes([1, 2], 41)[41]
        self.assertEqual(original_count(Code(BITS), Code([(9, (0, 0))]), [None] * 40), fibonacci)
        self.assertEqual(original_count(Code(full_table()), Code([]), [None] * 40),
                         counts_of_sizes([len(word) for sign, word in full_table()], 40)[40])

    def test_forty_entries_of_codes_of_twenty_four_pairs(self):
        chance = random.Random(138)
        wide = [(sign, word) for sign, word in enumerate(chance.sample(list(itertools.product(range(5), repeat=4)), 24))]
        for other in (wide, full_table(), [(sign, word[::-1]) for sign, word in wide]):
            count = original_count(Code(SINGLE), Code(other), [None] * 40)
            self.assertGreater(count, 10 ** 50)
            self.assertLess(count, 24 ** 40)
            text = least_original(Code(SINGLE), Code(other), [None] * 40)
            self.assertEqual(carried(Code(SINGLE), Code(other), text), [None] * 40)
            signs = [sign for sign, word in other]
            entries = [chance.choice([None, chance.choice(signs)]) for place in range(40)]
            if original_count(Code(SINGLE), Code(other), entries) > 0:
                text = least_original(Code(SINGLE), Code(other), entries)
                self.assertEqual(carried(Code(SINGLE), Code(other), text), entries)
            entries = [chance.choice(signs[-6:]) for place in range(40)]
            row = written(other, entries)
            if max(row) < 24:
                self.assertEqual(all_originals(Code(SINGLE), Code(other), entries, 1), [row])

    def test_somewhat_more_entries_than_forty(self):
        self.assertEqual(original_count(Code(BITS), Code([(9, (0, 1))]), [None] * 60), 61)
        self.assertEqual(least_original(Code(BITS), Code([(9, (0, 1))]), [9] * 50), [2, 1] * 50)
        self.assertEqual(all_originals(Code(BITS), Code([(9, (0, 1))]), [9] * 50, 1), [[2, 1] * 50])

    def test_what_came_out_has_its_original(self):
        chance = random.Random(139)
        tables = some_tables(139, 60, most=12)
        for one, other in zip(tables, tables[::-1]):
            for turn in range(6 if one else 0):
                text = [chance.choice(one)[0] for place in range(chance.randrange(9))]
                entries = spill_so(other, written(one, text))
                if len(entries) > 40:
                    continue
                least = least_original(Code(one), Code(other), entries)
                self.assertLessEqual(least, text)
                self.assertEqual(spill_so(other, written(one, least)), entries)
                count = original_count(Code(one), Code(other), entries)
                if count <= 200:
                    told = all_originals(Code(one), Code(other), entries, count)
                    self.assertIn(text, told)
                    self.assertEqual((len(told), told), (count, sorted(told)))
                    self.assertEqual([spill_so(other, written(one, found)) for found in told], [entries] * count)

    def test_handed_lists_may_be_changed_behind_and_told_ones_too(self):
        one, other = Code(BITS), Code([(9, (0, 0))])
        entries = [None, None]
        told = all_originals(one, other, entries, 200)
        least = least_original(one, other, entries)
        entries.append(77)
        self.assertEqual((told, least), ([[1, 1], [1, 2], [2, 1]], [1, 1]))
        again = all_originals(one, other, [None, None], 200)
        told[0].append(5)
        told.clear()
        least.clear()
        self.assertEqual(again, [[1, 1], [1, 2], [2, 1]])
        self.assertEqual(all_originals(one, other, [None, None], 3), again)
        self.assertEqual(least_original(one, other, [None, None]), [1, 1])
        nothing = all_originals(one, other, [77], 0)
        nothing.append(1)
        self.assertEqual(all_originals(one, other, [77], 0), [])


if __name__ == "__main__":
    unittest.main()

"""Point 30: verdicts."""

import random
import unittest

from helping import family_of, some_small_tables
from skewread.codes import Code
from skewread.pairs import merging, unread_sign
from skewread.verdicts import verdicts

BITS = [(1, (0,)), (2, (1,))]
PAIRED = [(5, (0, 0)), (6, (1,))]
LOSSY = [(5, (0, 0))]


def verdict_so(one, other):
    """The word for two tables."""
    if unread_sign(Code(one), Code(other)) is None:
        return "whole"
    return "merging" if merging(Code(one), Code(other)) is not None else "apart"


class Verdicts(unittest.TestCase):

    def test_families_of_none_and_of_one_name(self):
        self.assertEqual(verdicts(family_of([])), [])
        for table in ([], BITS, LOSSY):
            self.assertEqual(verdicts(family_of([("a", table, ())])), [])

    def test_by_hand(self):
        self.assertEqual(verdicts(family_of([("z", BITS, ()), ("a", PAIRED, (1,)), ("m", LOSSY, ())])), [
            ("z", "a", "apart"), ("z", "m", "merging"), ("a", "z", "whole"), ("a", "m", "apart"),
            ("m", "z", "whole"), ("m", "a", "whole")])

    def test_whole_goes_ahead(self):
        self.assertEqual(verdicts(family_of([("a", [], ()), ("b", BITS, ())])), [("a", "b", "whole"), ("b", "a", "merging")])
        self.assertEqual(verdicts(family_of([("a", [], ()), ("b", [(1, (0,))], ())])), [
            ("a", "b", "whole"), ("b", "a", "apart")])
        self.assertEqual(verdicts(family_of([("a", [(3, (0, 0)), (4, (1, 0))], ()), ("b", BITS, ())])), [
            ("a", "b", "whole"), ("b", "a", "merging")])

    def test_names_of_the_same_code(self):
        self.assertEqual(verdicts(family_of([("b", BITS, ()), ("a", BITS[::-1], (7,))])), [
            ("b", "a", "whole"), ("a", "b", "whole")])

    def test_families_by_chance(self):
        chance = random.Random(181)
        seen = {"whole": 0, "merging": 0, "apart": 0}
        for turn in range(60):
            names = chance.sample(["b", "a", "zz", "ab", "q", "skew", "readings", "c"], chance.choice([2, 3, 5, 8]))
            tables = dict(zip(names, some_small_tables(181 + turn, 8, most=8)))
            told = verdicts(family_of([(name, tables[name], ()) for name in names]))
            self.assertEqual([(first, second) for first, second, word in told],
                             [(first, second) for first in names for second in names if first != second])
            for first, second, word in told:
                self.assertEqual(word, verdict_so(tables[first], tables[second]))
                seen[word] += 1
        self.assertGreater(min(seen.values()), 50)

    def test_the_family_is_asked_as_it_is_now(self):
        family = family_of([("a", BITS, ())])
        told = verdicts(family)
        family.add("b", Code(LOSSY), ())
        self.assertEqual(told, [])
        told = verdicts(family)
        told.clear()
        self.assertEqual(verdicts(family), [("a", "b", "merging"), ("b", "a", "whole")])
        self.assertEqual(family.names(), ["a", "b"])


if __name__ == "__main__":
    unittest.main()

"""Point 23, and 5 (e): mendings, roots, ways_between."""

import itertools
import random
import unittest

from helping import check_refused, family_of, gone_so, some_families
from skewread.errors import NoWay, TooMany
from skewread.mendings import mendings, roots, ways_between
from skewread.ways import astray

ONE = [(1, (0,)), (2, (1,)), (3, (2, 2))]
OTHER = [(2, (0, 1)), (1, (1,)), (3, (0, 0)), (4, (2,))]
TURNED = [(2, (0,)), (1, (1,)), (9, (2,))]
MEMBERS = [("z", ONE, (0,)), ("a", OTHER, ()), ("m", TURNED, (0,))]
FOUR = [(sign, tuple((sign + byte) % 24 for byte in range(4))) for sign in range(24)]
SINGLE = [(sign, (sign,)) for sign in range(24)]


def ways_of(names, most):
    """All ways of one to so many legs of unlike names, in the order of point 23."""
    legs = [(first, second) for first in names for second in names if first != second]
    return [list(way) for size in range(1, most + 1) for way in itertools.product(legs, repeat=size)]


def astray_so(tables, text, way):
    """The text at the end of the way, or None."""
    for first, second in way:
        gone = gone_so(tables[first], tables[second], text)
        if gone is None:
            return None
        text = gone[1]
    return text


def mendings_so(members, text, legs):
    """All ways in order, each with the text that is found by going back on it."""
    tables = {name: table for name, table, mark in members}
    told = []
    for way in ways_of([name for name, table, mark in members], legs):
        back = astray_so(tables, text, [(second, first) for first, second in reversed(way)])
        told += [] if back is None else [(way, back)]
    return told


class Mendings(unittest.TestCase):

    def check(self, members, text, legs):
        """All that is told of the mendings, and the refusals of all three."""
        family = family_of(members)
        handed = list(text)
        told = mendings_so(members, text, legs)
        texts = [root for way, root in told]
        for most in {0, 1, len(told) - 1, len(told), 200}:
            if most < 0:
                continue
            if most < len(told):
                check_refused(self, lambda: mendings(family, handed, legs, most), TooMany, most)
                check_refused(self, lambda: roots(family, handed, legs, most), TooMany, most)
                for one in texts[:1] + [[77]]:
                    check_refused(self, lambda: ways_between(family, one, handed, legs, most), TooMany, most)
            else:
                self.assertEqual(mendings(family, handed, legs, most), told, (members, text))
                self.assertEqual(roots(family, handed, legs, most), sorted(map(list, set(map(tuple, texts)))))
                for one in texts[:3] + [[77], []]:
                    self.assertEqual(ways_between(family, one, handed, legs, most),
                                     [way for way, root in told if root == one])
        self.assertEqual(handed, text)
        return told

    def test_by_hand(self):
        family = family_of(MEMBERS)
        self.assertEqual(mendings(family, [1], 1, 200), [
            ([("z", "a")], [2]), ([("z", "m")], [2]), ([("a", "m")], [1]), ([("m", "z")], [2]), ([("m", "a")], [1])])
        self.assertEqual(mendings(family, [3], 1, 200), [
            ([("z", "a")], [1, 1]), ([("a", "z")], [4, 4]), ([("m", "z")], [9, 9]), ([("m", "a")], [2, 2])])
        self.assertEqual(roots(family, [3], 1, 200), [[1, 1], [2, 2], [4, 4], [9, 9]])
        self.assertEqual(roots(family, [1], 1, 5), [[1], [2]])
        self.assertEqual(ways_between(family, [2], [1], 1, 5), [[("z", "a")], [("z", "m")], [("m", "z")]])
        self.assertEqual(ways_between(family, [1], [1], 1, 5), [[("a", "m")], [("m", "a")]])
        self.assertEqual(ways_between(family, [3], [1], 1, 5), [])

    def test_of_families_of_none_and_one(self):
        for members in ([], MEMBERS[:1]):
            family = family_of(members)
            for text in ([], [1], [77]):
                for legs in (1, 2, 3):
                    self.assertEqual(mendings(family, text, legs, 0), [])
                    self.assertEqual(roots(family, text, legs, 0), [])
                    self.assertEqual(ways_between(family, text, text, legs, 0), [])

    def test_the_text_of_none_comes_on_each_way(self):
        for many, counts in ((2, (2, 6, 14)), (3, (6, 42, 258)), (4, (12, 156, 1884))):
            members = (MEMBERS + [("k", [], ())])[:many]
            family = family_of(members)
            names = [name for name, table, mark in members]
            for legs, count in zip((1, 2, 3), counts):
                if count > 200:
                    check_refused(self, lambda: mendings(family, [], legs, 200), TooMany, 200)
                    continue
                self.assertEqual(mendings(family, [], legs, count), [(way, []) for way in ways_of(names, legs)])
                self.assertEqual(roots(family, [], legs, count), [[]])
                self.assertEqual(ways_between(family, [], [], legs, count), ways_of(names, legs))
                self.assertEqual(ways_between(family, [1], [], legs, count), [])

    def test_texts_that_are_on_no_way(self):
        family = family_of(MEMBERS)
        for text in ([77], [1, 77], [10 ** 9] * 200):
            self.assertEqual(mendings(family, text, 3, 0), [])
            self.assertEqual(roots(family, text, 3, 0), [])

    def test_too_many(self):
        family = family_of(MEMBERS)
        for text in ([1], [3], [2, 1]):
            for legs in (1, 2, 3):
                count = len(mendings(family, text, legs, 200))
                self.assertGreater(count, 1)
                self.assertEqual(len(mendings(family, text, legs, count)), count)
                for most in (0, 1, count // 2, count - 1):
                    check_refused(self, lambda: mendings(family, text, legs, most), TooMany, most)
                    check_refused(self, lambda: roots(family, text, legs, most), TooMany, most)
                    check_refused(self, lambda: ways_between(family, [77], text, legs, most), TooMany, most)

    def test_the_order_goes_by_places_not_by_letters(self):
        for members in itertools.permutations(MEMBERS):
            names = [name for name, table, mark in members]
            for text in ([1], [3], [2, 1]):
                told = self.check(list(members), text, 3)
                keys = [(len(way), [[names.index(name) for name in leg] for leg in way]) for way, root in told]
                self.assertEqual(keys, sorted(keys))
                self.assertEqual(len({str(way) for way, root in told}), len(told))

    def test_names_of_the_same_code(self):
        members = [("b", ONE, ()), ("a", ONE[::-1], (1,)), ("c", [(7, (0,))], ())]
        self.assertEqual(mendings(family_of(members), [2], 3, 200), mendings_so(members, [2], 3))
        self.assertEqual(mendings(family_of(members), [2], 1, 2), [([("b", "a")], [2]), ([("a", "b")], [2])])
        self.check(members, [1, 1], 2)
        self.check(members, [7], 3)

    def test_families_by_chance(self):
        chance = random.Random(121)
        for members in some_families(121, 80):
            for turn in range(3):
                text = [chance.randrange(3) for place in range(chance.randrange(5))]
                self.check(members, text, chance.choice([1, 2, 2, 3]))

    def test_all_ways_and_no_others(self):
        texts = [list(text) for size in range(4) for text in itertools.product([0, 1, 2], repeat=size)]
        for members in some_families(122, 12, most=3):
            family = family_of(members)
            tables = {name: table for name, table, mark in members}
            came = {}
            for way in ways_of(list(tables), 2):
                for text in texts:
                    end = astray_so(tables, text, way)
                    if end is not None:
                        came.setdefault(tuple(end), []).append((way, text))
            for end, found in came.items():
                told = mendings(family, list(end), 2, 200)
                self.assertEqual([pair for pair in told if len(pair[1]) <= 3], found)
                for way, text in told:
                    self.assertEqual(astray_so(tables, text, way), list(end))

    def test_each_text_that_goes_astray_is_found_again(self):
        chance = random.Random(123)
        seen = 0
        for members in some_families(123, 300):
            family = family_of(members)
            ways = ways_of(family.names(), 3)
            for way in chance.sample(ways, min(30, len(ways))):
                text = [chance.randrange(3) for place in range(chance.randrange(1, 6))]
                try:
                    end = astray(family, text, way)
                    told = mendings(family, end, len(way), 200)
                except (NoWay, TooMany):
                    continue
                seen += 1
                self.assertIn((way, text), told)
                self.assertIn(text, roots(family, end, len(way), 200))
                self.assertIn(way, ways_between(family, text, end, len(way), 200))
        self.assertGreater(seen, 100)

    def test_how_long_they_become_matters_nothing(self):
        family = family_of([("four", FOUR, ()), ("single", SINGLE, ())])
        text = [place % 24 for place in range(200)]
        told = mendings(family, text, 3, 200)
        self.assertEqual(max(len(root) for way, root in told), 12800)
        for way, root in told:
            self.assertEqual(astray(family, root, way), text)
        self.assertEqual(max(map(len, roots(family, text, 3, len(told)))), 12800)
        check_refused(self, lambda: mendings(family, text, 3, len(told) - 1), TooMany, len(told) - 1)

    def test_eight_names(self):
        tables = [[(sign, ((sign + shift) % 5,)) for sign in range(5)] for shift in range(8)]
        members = [(name, table, ()) for name, table in zip("hgfedcba", tables)]
        family = family_of(members)
        told = mendings(family, [0, 4] * 100, 1, 56)
        self.assertEqual([way for way, root in told], ways_of("hgfedcba", 1))
        check_refused(self, lambda: mendings(family, [0, 4] * 100, 1, 55), TooMany, 55)
        for legs in (2, 3):
            check_refused(self, lambda: mendings(family, [0, 4] * 100, legs, 200), TooMany, 200)
        apart = [(name, [(place, (place,)), (place + 1, (place + 10,))], ()) for place, name in enumerate("hgfedcba")]
        self.check(apart, [3], 3)
        linked = [(name, [(place, (place,)), (place + 9, (place + 1,))], ()) for place, name in enumerate("hgfedcba")]
        for text in ([3], [12], [3, 3], [0], [7], [16]):
            self.check(linked, text, 3)

    def test_told_lists_may_be_changed(self):
        members = [("b", ONE, ()), ("a", ONE, ())]
        family = family_of(members)
        text = [1, 2]
        told = mendings(family, text, 3, 200)
        kept = mendings_so(members, text, 3)
        again = mendings(family, text, 3, 200)
        parts = [part for pair in told for part in pair]
        self.assertEqual(len({id(part) for part in parts + [text]}), 2 * len(told) + 1)
        for part in parts:
            part.clear()
        told.clear()
        self.assertEqual((again, mendings(family, text, 3, 200), text), (kept, kept, [1, 2]))
        for pair in again:
            self.assertIsInstance(pair, tuple)
            self.assertIsInstance(pair[0][0], tuple)
        for ask in (lambda: roots(family, text, 2, 200), lambda: ways_between(family, text, text, 2, 200)):
            told = ask()
            kept = [list(part) for part in told]
            for part in told:
                part.append(5)
            self.assertEqual((ask(), text), (kept, [1, 2]))


if __name__ == "__main__":
    unittest.main()

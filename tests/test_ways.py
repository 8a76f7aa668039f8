"""Points 21 and 22: astray, trail, mended."""

import itertools
import random
import unittest

from helping import check_refused, family_of, gone_so, some_families
from skewread.errors import NoName, NoWay
from skewread.ways import astray, mended, trail

PAIRED = [(1, (0,)), (2, (1,)), (3, (2, 2))]
WIDE = [(2, (0, 1)), (1, (1,)), (3, (0, 0)), (4, (2,))]
TURNED = [(2, (0,)), (1, (1,)), (9, (2,))]
MEMBERS = [("p", PAIRED, (0,)), ("w", WIDE, ()), ("t", TURNED, (0,)), ("none", [], ())]
FOUR = [(sign, tuple((sign + byte) % 24 for byte in range(4))) for sign in range(24)]
SINGLE = [(sign, (sign,)) for sign in range(24)]


def trail_so(tables, text, way):
    """Point 21's own words: the trail, or the number of the first leg that cannot be gone."""
    told = [list(text)]
    for leg, (first, second) in enumerate(way):
        gone = gone_so(tables[first], tables[second], told[-1])
        if gone is None:
            return leg
        told += gone
    return told


def mended_so(tables, text, way):
    """Point 22's own words: the text, or the number of the last leg that cannot be gone back."""
    for leg in range(len(way) - 1, -1, -1):
        gone = gone_so(tables[way[leg][1]], tables[way[leg][0]], text)
        if gone is None:
            return leg
        text = gone[1]
    return text


def ways_of(names, most):
    """All ways of one to so many legs."""
    legs = list(itertools.product(names, repeat=2))
    return [list(way) for size in range(1, most + 1) for way in itertools.product(legs, repeat=size)]


class Ways(unittest.TestCase):

    def check(self, members, text, way):
        family = family_of(members)
        tables = {name: table for name, table, mark in members}
        handed, handed_way = list(text), list(way)
        told = trail_so(tables, text, way)
        if isinstance(told, int):
            check_refused(self, lambda: astray(family, handed, handed_way), NoWay, told)
            check_refused(self, lambda: trail(family, handed, handed_way), NoWay, told)
        else:
            self.assertEqual(trail(family, handed, handed_way), told)
            self.assertEqual(astray(family, handed, handed_way), told[-1])
            self.assertEqual(mended(family, told[-1], handed_way), text)
        back = mended_so(tables, text, way)
        if isinstance(back, int):
            check_refused(self, lambda: mended(family, handed, handed_way), NoWay, back)
        else:
            self.assertEqual(mended(family, handed, handed_way), back)
            self.assertEqual(astray(family, back, handed_way), text)
        self.assertEqual((handed, handed_way), (text, way))
        self.assertEqual(family.names(), [name for name, table, mark in members])

    def test_one_leg(self):
        family = family_of(MEMBERS)
        self.assertEqual(astray(family, [1, 2, 1, 1], [("p", "w")]), [2, 3])
        self.assertEqual(trail(family, [1, 2, 1, 1], [("p", "w")]), [[1, 2, 1, 1], [0, 1, 0, 0], [2, 3]])
        self.assertEqual(mended(family, [2, 3], [("p", "w")]), [1, 2, 1, 1])
        self.assertEqual(astray(family, [3], [("p", "t")]), [9, 9])
        self.assertEqual(mended(family, [9, 9], [("p", "t")]), [3])

    def test_several_legs(self):
        family = family_of(MEMBERS)
        way = [("p", "w"), ("t", "p"), ("p", "w")]
        self.assertEqual(trail(family, [1, 1, 1, 2], [("p", "w")]), [[1, 1, 1, 2], [0, 0, 0, 1], [3, 2]])
        self.assertEqual(trail(family, [2, 1], [("t", "p"), ("p", "w")]), [[2, 1], [0, 1], [1, 2], [0, 1], [2]])
        told = [[1, 2, 1, 2], [0, 1, 0, 1], [2, 2], [0, 0], [1, 1], [0, 0], [3]]
        self.assertEqual(trail(family, [1, 2, 1, 2], way), told)
        self.assertEqual(astray(family, [1, 2, 1, 2], way), [3])
        self.assertEqual(mended(family, [3], way), [1, 2, 1, 2])
        check_refused(self, lambda: astray(family, [1, 1, 1, 2], way), NoWay, 1)
        check_refused(self, lambda: astray(family, [2, 1, 2], way), NoWay, 2)

    def test_a_leg_of_one_name_twice(self):
        family = family_of(MEMBERS)
        for name, text in (("p", [1, 2, 3]), ("w", [4, 3]), ("none", [])):
            self.assertEqual(astray(family, text, [(name, name)]), text)
            self.assertEqual(mended(family, text, [(name, name)] * 3), text)
        check_refused(self, lambda: astray(family, [9], [("p", "p")]), NoWay, 0)
        check_refused(self, lambda: mended(family, [9], [("t", "t"), ("p", "p")]), NoWay, 1)

    def test_marks_are_left_aside(self):
        bare = family_of([(name, table, ()) for name, table, mark in MEMBERS])
        marked = family_of([(name, table, (9, 9)) for name, table, mark in MEMBERS])
        for family in (bare, marked):
            self.assertEqual(trail(family, [1, 2], [("p", "w")]), [[1, 2], [0, 1], [2]])
            self.assertEqual(mended(family, [2], [("p", "w")]), [1, 2])

    def test_the_text_of_none(self):
        family = family_of(MEMBERS)
        for way in ways_of(["p", "none"], 3):
            self.assertEqual(trail(family, [], way), [[]] * (2 * len(way) + 1))
            self.assertEqual((astray(family, [], way), mended(family, [], way)), ([], []))

    def test_no_name_is_the_first_one_in_the_way(self):
        family = family_of(MEMBERS)
        for ask in (astray, trail, mended):
            for text in ([1], [77], []):
                check_refused(self, lambda: ask(family, text, [("q", "p")]), NoName, "q")
                check_refused(self, lambda: ask(family, text, [("p", "q")]), NoName, "q")
                check_refused(self, lambda: ask(family, text, [("r", "q")]), NoName, "r")
                check_refused(self, lambda: ask(family, text, [("p", "p"), ("p", "s"), ("q", "r")]), NoName, "s")
                check_refused(self, lambda: ask(family, text, [("p", "w"), ("w", "p"), ("p", "zz")]), NoName, "zz")
                check_refused(self, lambda: ask(family_of([]), text, [("a", "b")]), NoName, "a")
        self.assertEqual(family.names(), ["p", "w", "t", "none"])

    def test_no_name_ahead_of_no_way(self):
        family = family_of(MEMBERS)
        for ask in (astray, trail, mended):
            check_refused(self, lambda: ask(family, [77], [("p", "w"), ("p", "q")]), NoName, "q")
            check_refused(self, lambda: ask(family, [77], [("q", "w"), ("p", "w")]), NoName, "q")

    def test_no_way_of_the_first_leg(self):
        family = family_of(MEMBERS)
        for text, way, leg in (([4], [("p", "w")], 0), ([1], [("p", "none")], 0), ([1, 1], [("p", "p"), ("p", "none")], 1),
                               ([9], [("t", "w"), ("w", "w"), ("p", "p")], 2), ([1, 77], [("p", "p")] * 3, 0),
                               ([2, 2], [("p", "t"), ("t", "w"), ("w", "none")], 2), ([1], [("p", "w"), ("p", "p")], 0)):
            check_refused(self, lambda: astray(family, text, way), NoWay, leg)
            check_refused(self, lambda: trail(family, text, way), NoWay, leg)

    def test_no_way_of_the_last_leg_that_cannot_be_gone_back(self):
        family = family_of(MEMBERS)
        for text, way, leg in (([9], [("p", "w")], 0), ([9], [("p", "w"), ("w", "p")], 1), ([1], [("none", "p")], 0),
                               ([2], [("none", "p"), ("none", "p"), ("p", "p")], 1), ([77], [("p", "p")] * 3, 2),
                               ([2], [("none", "p"), ("p", "t"), ("t", "p")], 0), ([4], [("p", "w"), ("w", "w")], 0)):
            check_refused(self, lambda: mended(family, text, way), NoWay, leg)

    def test_all_ways_of_short_texts(self):
        names = [name for name, table, mark in MEMBERS]
        for text in ([], [1], [2, 1], [1, 2, 1, 1], [3, 3], [9], [4], [77]):
            for way in ways_of(names, 2):
                self.check(MEMBERS, text, way)
        chance = random.Random(111)
        for way in chance.sample(ways_of(names, 3), 300):
            for text in ([1, 1], [2, 1, 1, 2], [2, 2]):
                self.check(MEMBERS, text, way)

    def test_families_by_chance(self):
        chance = random.Random(112)
        for members in some_families(112, 120):
            ways = ways_of([name for name, table, mark in members], 3)
            for way in chance.sample(ways, min(12, len(ways))):
                self.check(members, [chance.randrange(3) for place in range(chance.randrange(7))], way)

    def test_how_long_they_become_matters_nothing(self):
        family = family_of([("four", FOUR, ()), ("single", SINGLE, ())])
        text = [place % 24 for place in range(200)]
        way = [("single", "four")] * 3
        long = mended(family, text, way)
        self.assertEqual(len(long), 12800)
        self.assertEqual(astray(family, long, way), text)
        out = [("four", "single")] * 3
        self.assertEqual(astray(family, text, out), long)
        self.assertEqual([len(step) for step in trail(family, text, out)], [200, 800, 800, 3200, 3200, 12800, 12800])
        self.assertEqual(mended(family, long, out), text)
        check_refused(self, lambda: mended(family, long[:-1], out), NoWay, 2)
        check_refused(self, lambda: mended(family, long[:-4], out), NoWay, 1)
        check_refused(self, lambda: mended(family, long[:-16], out), NoWay, 0)

    def test_told_lists_may_be_changed(self):
        family = family_of(MEMBERS)
        text = [1, 2]
        way = [("p", "p"), ("p", "w")]
        told = trail(family, text, way)
        again = trail(family, text, way)
        self.assertEqual(len({id(step) for step in told + [text]}), 6)
        for step in told:
            step.append(5)
        told.clear()
        self.assertEqual((text, way), ([1, 2], [("p", "p"), ("p", "w")]))
        self.assertEqual((again, trail(family, text, way)), ([[1, 2], [0, 1], [1, 2], [0, 1], [2]],) * 2)
        for ask, handed in ((astray, [1, 2]), (mended, [2]), (astray, []), (mended, [])):
            told = ask(family, handed, way)
            kept = list(told)
            again = ask(family, handed, way)
            told.append(5)
            self.assertEqual((again, ask(family, handed, way)), (kept, kept))
            self.assertEqual(family.code("p").table(), PAIRED)


if __name__ == "__main__":
    unittest.main()

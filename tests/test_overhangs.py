"""Point 19, and of 5 (d) what the overhangs show."""

import random
import unittest

from helping import begins, full_table, readings, rows_of, some_loose_tables, some_tables
from skewread.loose import reading_count
from skewread.overhangs import overhangs, shows_one_way

# Each with its overhangs, reckoned by hand.
TABLES = [
    ([], []),
    ([(1, (0,))], []),
    ([(1, (0,)), (2, (1,))], []),
    ([(1, (0,)), (2, (0,))], [()]),
    ([(1, (0, 0)), (2, (0, 0))], [()]),
    ([(1, (0,)), (2, (0, 1))], [(1,)]),
    ([(1, (0, 1)), (2, (0,))], [(1,)]),
    ([(1, (0,)), (2, (0, 0))], [(), (0,)]),
    ([(1, (0,)), (2, (0, 1)), (3, (1, 0))], [(), (0,), (1,)]),
    ([(1, (0,)), (2, (0, 1)), (3, (1, 1))], [(1,)]),
    ([(1, (0,)), (2, (0, 1)), (3, (1,))], [(), (1,)]),
    ([(1, (0,)), (2, (0, 1, 2)), (3, (1, 2, 3)), (4, (3, 5))], [(1, 2), (3,), (5,)]),
    ([(1, (0, 1)), (2, (0, 1, 2, 3)), (3, (2,)), (4, (3, 4))], [(2, 3), (3,), (4,)]),
    ([(1, (0, 1)), (2, (0, 1, 2, 3)), (3, (2,)), (4, (3, 4)), (5, (4, 4, 4))], [(2, 3), (3,), (4,), (4, 4)]),
    ([(1, (0, 0)), (2, (0, 0, 0))], [(), (0,), (0, 0)]),
]


def overhangs_so(table):
    """Point 19's own words: what must be in it, until nothing more must."""
    words = [word for sign, word in table]
    found = {other[len(word):] for place, word in enumerate(words) for second, other in enumerate(words)
             if place != second and begins(word, other)}
    while True:
        more = {word[len(member):] for member in found - {()} for word in words if begins(member, word)}
        more |= {member[len(word):] for member in found - {()} for word in words if begins(word, member)}
        if more <= found:
            return sorted(found)
        found |= more


class Overhangs(unittest.TestCase):

    def test_by_hand(self):
        for table, told in TABLES:
            self.assertEqual(overhangs(table), told, table)
            self.assertEqual(overhangs(table[::-1]), told, table)
            self.assertEqual(overhangs_so(table), told, table)

    def test_of_codes_there_are_none(self):
        for table in some_tables(91, 40, most=20) + [full_table()]:
            self.assertEqual(overhangs(table), [])
            self.assertIs(shows_one_way(table, []), True)

    def test_tables_by_chance(self):
        for table in some_loose_tables(92, 400) + some_loose_tables(93, 200, alphabet=(0, 1, 2, 255), most=10):
            handed = list(table)
            told = overhangs(handed)
            self.assertEqual(told, overhangs_so(table), table)
            self.assertEqual(handed, table)
            self.assertTrue(all(isinstance(rest, tuple) for rest in told))

    def test_tables_of_twenty_four_pairs(self):
        chance = random.Random(94)
        for turn in range(30):
            words = [tuple(chance.randrange(4) for byte in range(chance.choice([2, 3, 4, 4, 4]))) for pair in range(24)]
            table = list(enumerate(words))
            self.assertEqual(overhangs(table), overhangs_so(table))

    def test_none_just_where_some_row_is_read_in_two_ways(self):
        for table in some_loose_tables(95, 300, most=4, longest=3):
            twice = [row for row in rows_of((0, 1), 8) if len(readings(table, row)) > 1]
            if twice:
                self.assertIn((), overhangs(table))
            elif () in overhangs(table):
                self.assertTrue(any(reading_count(table, row) > 1 for row in rows_of((0, 1), 12)), table)

    def test_told_lists_may_be_changed(self):
        table = TABLES[8][0]
        told, again = overhangs(table), overhangs(table)
        told.clear()
        self.assertEqual((again, overhangs(table)), ([(), (0,), (1,)], [(), (0,), (1,)]))


class Papers(unittest.TestCase):

    def check(self, table, told):
        """The overhangs in any order and with others are a paper, with one left out they are none."""
        chance = random.Random(96)
        shows = () not in told
        needless = [(), (77,), (0, 0, 0, 0, 0), (None,), ("a", -5, (None, ("", 10 ** 30))), ((),), ("0",), ((0,),), ((1,),)]
        for turn in range(4):
            some = told + needless[:turn * 3] + told[:turn]
            chance.shuffle(some)
            handed = list(some)
            self.assertIs(shows_one_way(table, handed), shows, (table, some))
            self.assertEqual(handed, some)
        for place in range(len(told)):
            less = told[:place] + told[place + 1:]
            self.assertIs(shows_one_way(table, less), False)
            self.assertIs(shows_one_way(table, needless[1:] + less), False)

    def test_by_hand(self):
        for table, told in TABLES:
            self.check(table, told)

    def test_of_none(self):
        self.assertIs(shows_one_way([], []), True)
        self.assertIs(shows_one_way([(1, (0,))], []), True)
        self.assertIs(shows_one_way([(1, (0,))], [()]), True)
        self.assertIs(shows_one_way([(1, (0,)), (2, (0,))], []), False)
        self.assertIs(shows_one_way([(1, (0,)), (2, (0,))], [()]), False)
        self.assertIs(shows_one_way([(1, (0,)), (2, (0, 1))], []), False)

    def test_tables_by_chance(self):
        for table in some_loose_tables(97, 200):
            self.check(table, overhangs_so(table))


if __name__ == "__main__":
    unittest.main()

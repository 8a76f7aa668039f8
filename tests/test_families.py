"""Points 15, 16 and 17, and 5 (c): families and marks."""

import itertools
import random
import unittest

from helping import begins, check_refused, family_of, full_table, furthest, readings, rows_of, some_tables, written
from skewread.codes import Code
from skewread.errors import NoMark, NoName, NoReading, NoSign, Taken, TwoMarks
from skewread.families import Family

SMALL = [(1, (0,)), (2, (7, 0)), (3, (7, 7, 255))]
WIDE = [(1, (7,)), (4, (0, 0)), (5, (0, 255))]
MARKS = [(), (0,), (7,), (0, 7), (0, 7, 0), (0, 7, 7, 255), (7, 0), (0, 0), (255, 255, 255, 255)]
NAMES = ["b", "a", "zzzzzzzz", "ab", "abcdefgh", "q", "c", "x"]


def by_mark_so(members, row):
    """Point 16's own words."""
    such = [(name, mark) for name, table, mark in members if mark != () and begins(mark, row)]
    return [name for name, mark in such if not any(len(other) > len(mark) for strange, other in such)]


def misled_so(members, name, most):
    """Point 17's own words, over all texts of at most so many signs."""
    table, mark = next((table, mark) for other, table, mark in members if other == name)
    for size in range(most + 1):
        for text in itertools.product(sorted(sign for sign, word in table), repeat=size):
            if by_mark_so(members, list(mark) + written(table, list(text))) != [name]:
                return list(text)
    return None


def some_members(seed, many):
    """So many lists of members by chance."""
    chance = random.Random(seed)
    tables = some_tables(seed, 40, most=4, signs=[0, 3, 9, 10 ** 9])
    for turn in range(many):
        names = chance.sample(NAMES, chance.randrange(1, 6))
        marks = [tuple(chance.choice((0, 7)) for byte in range(chance.choice([0, 1, 1, 2, 2, 3, 4]))) for name in names]
        yield [(name, chance.choice(tables), mark) for name, mark in zip(names, marks)]


class Members(unittest.TestCase):

    def test_of_none(self):
        family = Family()
        self.assertEqual((family.names(), family.fitting([]), family.by_mark([]), family.by_mark([0])), ([], [], [], []))
        check_refused(self, lambda: family.code("a"), NoName, "a")
        check_refused(self, lambda: family.mark("a"), NoName, "a")
        check_refused(self, lambda: family.opened([]), NoMark)
        check_refused(self, lambda: family.opened([0]), NoMark)

    def test_names_in_the_order_told(self):
        family = Family()
        for place, name in enumerate(NAMES):
            self.assertIsNone(family.add(name, Code(full_table(place)), MARKS[place]))
            self.assertEqual(family.names(), NAMES[:place + 1])
        for place, name in enumerate(NAMES):
            self.assertIs(family.code(name).same(Code(full_table(place))), True)
            self.assertEqual(family.mark(name), MARKS[place])
            self.assertIsInstance(family.mark(name), tuple)

    def test_taken(self):
        family = family_of([("a", SMALL, (1, 2)), ("b", WIDE, ())])
        check_refused(self, lambda: family.add("a", Code(WIDE), (3,)), Taken, "a")
        check_refused(self, lambda: family.add("b", Code(WIDE), ()), Taken, "b")
        self.assertEqual((family.names(), family.mark("a"), family.mark("b")), (["a", "b"], (1, 2), ()))
        self.assertIs(family.code("a").same(Code(SMALL)), True)
        family.add("c", Code(WIDE), (1, 2))
        self.assertEqual(family.names(), ["a", "b", "c"])

    def test_no_name(self):
        family = family_of([("a", SMALL, (1,)), ("bb", WIDE, ())])
        for name in ("b", "aa", "bbb", "zzzzzzzz"):
            for ask in (family.code, family.mark, family.misled):
                check_refused(self, lambda: ask(name), NoName, name)
            for ask in (family.marked, family.mistaken):
                check_refused(self, lambda: ask(name, [1]), NoName, name)
                check_refused(self, lambda: ask(name, [99]), NoName, name)
        self.assertEqual(family.names(), ["a", "bb"])

    def test_two_families_share_nothing(self):
        one, other = Family(), Family()
        one.add("a", Code(SMALL), (1,))
        self.assertEqual(other.names(), [])
        other.add("a", Code(WIDE), (2,))
        self.assertEqual((one.mark("a"), other.mark("a")), ((1,), (2,)))
        code = Code(SMALL)
        one.add("b", code, ())
        other.add("c", code, (1,))
        self.assertEqual((one.names(), other.names()), (["a", "b"], ["a", "c"]))

    def test_fitting(self):
        members = [("b", SMALL, (0,)), ("a", WIDE, (7,)), ("c", [], ()), ("d", SMALL[::-1], (0, 0))]
        family = family_of(members)
        self.assertEqual(family.fitting([]), ["b", "a", "c", "d"])
        self.assertEqual(family.fitting([0]), ["b", "d"])
        self.assertEqual(family.fitting([0, 0]), ["b", "a", "d"])
        self.assertEqual(family.fitting([7]), ["a"])
        self.assertEqual(family.fitting([9]), [])
        self.assertEqual(family.fitting([0, 0] * 400), ["b", "a", "d"])
        self.assertEqual(family.fitting([0, 0] * 399 + [0, 9]), [])

    def test_fitting_of_all_short_rows(self):
        for members in some_members(71, 20):
            family = family_of(members)
            for row in rows_of((0, 7, 255), 4):
                handed = list(row)
                told = [name for name, table, mark in members if readings(table, row)]
                self.assertEqual(family.fitting(handed), told)
                self.assertEqual(handed, row)


class Marks(unittest.TestCase):

    def test_marked(self):
        family = family_of([("a", SMALL, (255, 254, 0, 1)), ("b", WIDE, ()), ("c", [], (9,))])
        self.assertEqual(family.marked("a", []), [255, 254, 0, 1])
        self.assertEqual(family.marked("a", [3, 1]), [255, 254, 0, 1, 7, 7, 255, 0])
        self.assertEqual(family.marked("b", [5, 1]), [0, 255, 7])
        self.assertEqual((family.marked("b", []), family.marked("c", [])), ([], [9]))
        self.assertEqual(len(family.marked("a", [3] * 200)), 604)

    def test_no_sign_is_counted_in_the_text(self):
        family = family_of([("a", SMALL, (255, 254)), ("b", WIDE, ())])
        for ask in (family.marked, family.mistaken):
            check_refused(self, lambda: ask("a", [1, 2, 4, 5]), NoSign, 2)
            check_refused(self, lambda: ask("b", [2]), NoSign, 0)
        self.assertEqual(family.marked("a", [1]), [255, 254, 0])

    def test_by_mark_takes_the_longest(self):
        family = family_of([(name, SMALL, mark) for name, mark in zip(NAMES, MARKS)])
        for row, told in (([], []), ([1], []), ([0], ["a"]), ([0, 1], ["a"]), ([0, 7], ["ab"]), ([0, 7, 1], ["ab"]),
                          ([0, 7, 0], ["abcdefgh"]), ([0, 7, 7], ["ab"]), ([0, 7, 7, 255], ["q"]), ([7], ["zzzzzzzz"]),
                          ([0, 7, 7, 255, 0], ["q"]), ([7, 0, 7], ["c"]), ([7, 7], ["zzzzzzzz"]), ([0, 0, 7], ["x"]),
                          ([255], [])):
            self.assertEqual(family.by_mark(row), told, row)

    def test_by_mark_of_the_same_marks(self):
        family = family_of([("b", SMALL, (7,)), ("a", WIDE, (7,)), ("d", [], ()), ("c", SMALL, (7, 0)), ("e", [], (7,))])
        self.assertEqual(family.by_mark([7]), ["b", "a", "e"])
        self.assertEqual(family.by_mark([7, 7]), ["b", "a", "e"])
        self.assertEqual(family.by_mark([7, 0]), ["c"])
        self.assertEqual(family.by_mark([0]), [])
        check_refused(self, lambda: family.opened([7, 0, 9]), NoReading, 2)
        check_refused(self, lambda: family.opened([7, 7, 7]), TwoMarks, "b", "a")

    def test_marks_of_none_are_never_told(self):
        family = family_of([("a", SMALL, ()), ("b", WIDE, ())])
        for row in rows_of((0, 7), 3):
            self.assertEqual(family.by_mark(row), [])
            check_refused(self, lambda: family.opened(row), NoMark)

    def test_opened(self):
        family = family_of([("a", SMALL, (255, 254)), ("b", WIDE, (7,)), ("c", [], (9,)), ("d", SMALL, ())])
        self.assertEqual(family.opened([255, 254, 0, 7, 0]), ("a", [1, 2]))
        self.assertEqual(family.opened([7, 7]), ("b", [1]))
        for name, text in (("a", [1, 2, 3]), ("a", []), ("b", [5, 5, 1]), ("c", [])):
            self.assertEqual(family.opened(family.marked(name, text)), (name, text))
        self.assertIsInstance(family.opened([7]), tuple)
        check_refused(self, lambda: family.opened([255]), NoMark)
        check_refused(self, lambda: family.opened([]), NoMark)

    def test_no_reading_is_counted_in_the_whole_row(self):
        family = family_of([("a", SMALL, (255, 254, 253, 252)), ("b", WIDE, (7,)), ("c", [], (9,))])
        for row, at in (([255, 254, 253, 252, 0, 9], 5), ([255, 254, 253, 252, 255], 4), ([7, 1], 1), ([7, 0], 1),
                        ([7, 7, 0, 255, 0], 4), ([9, 9], 1), ([255, 254, 253, 252, 0, 7], 5)):
            check_refused(self, lambda: family.opened(row), NoReading, at)

    def test_rows_of_more_than_eight_hundred_bytes(self):
        table = [(1, (0, 1, 2, 3))]
        family = family_of([("a", table, (9, 9, 9, 9)), ("b", [], (9, 9))])
        row = family.marked("a", [1] * 200)
        self.assertEqual(len(row), 804)
        self.assertEqual(family.by_mark(row), ["a"])
        self.assertEqual(family.opened(row), ("a", [1] * 200))
        check_refused(self, lambda: family.opened(row[:-1]), NoReading, 800)

    def test_all_short_rows(self):
        for members in some_members(72, 60):
            family = family_of(members)
            for row in rows_of((0, 7), 5):
                handed = list(row)
                self.check_opened(family, members, handed)
                self.assertEqual(handed, row)

    def check_opened(self, family, members, row):
        told = by_mark_so(members, row)
        self.assertEqual(family.by_mark(row), told)
        if len(told) == 0:
            check_refused(self, lambda: family.opened(row), NoMark)
        elif len(told) > 1:
            check_refused(self, lambda: family.opened(row), TwoMarks, told[0], told[1])
        else:
            table, mark = next((table, mark) for name, table, mark in members if name == told[0])
            texts = readings(table, row[len(mark):])
            if texts:
                self.assertEqual(family.opened(row), (told[0], texts[0]))
            else:
                at = len(mark) + furthest(table, row[len(mark):])
                check_refused(self, lambda: family.opened(row), NoReading, at)


class Misled(unittest.TestCase):

    def test_marks_of_none_mislead_by_each_text(self):
        family = family_of([("a", SMALL, ()), ("b", WIDE, (0,))])
        self.assertEqual(family.misled("a"), [])
        for text in ([], [1], [2, 3]):
            self.assertIs(family.mistaken("a", text), True)
            self.assertIs(family.mistaken("b", [1]), False)
        self.assertEqual(family_of([("a", [], ())]).misled("a"), [])

    def test_the_same_mark_misleads_by_the_text_of_none(self):
        family = family_of([("a", SMALL, (7,)), ("b", WIDE, (7,)), ("c", [], (9,))])
        self.assertEqual((family.misled("a"), family.misled("b"), family.misled("c")), ([], [], None))
        self.assertIs(family.mistaken("a", [1]), True)
        self.assertIs(family.mistaken("c", []), False)

    def test_none_is_misled(self):
        family = family_of([("a", SMALL, (9,)), ("b", WIDE, (8, 8)), ("c", SMALL, (9, 9)), ("d", SMALL, ())])
        self.assertIsNone(family.misled("a"))
        self.assertIsNone(family.misled("b"))
        self.assertIsNone(family.misled("c"))
        for text in ([], [1], [2, 3, 1]):
            self.assertIs(family.mistaken("a", text), False)
        self.assertIsNone(family_of([("a", SMALL, (9,))]).misled("a"))

    def test_the_least_by_fewer_signs_then_by_order(self):
        marks = [(9,), (9, 0, 0, 7), (9, 7), (1, 0)]
        family = family_of([(name, SMALL, mark) for name, mark in zip("abcd", marks)])
        self.assertEqual(family.misled("a"), [2])
        self.assertIs(family.mistaken("a", [2]), True)
        self.assertIs(family.mistaken("a", [1]), False)
        family = family_of([("a", SMALL, (9,)), ("b", [], (9, 0, 0, 7))])
        self.assertEqual(family.misled("a"), [1, 1, 2])
        family = family_of([("a", [(8, (0,)), (6, (1,)), (7, (2, 2))], (9,)), ("b", [], (9, 0, 0)), ("c", [], (9, 1, 1)),
                            ("d", [], (9, 2, 2, 2))])
        self.assertEqual(family.misled("a"), [6, 6])
        family = family_of([("a", [(8, (0, 1)), (3, (0, 7, 7)), (5, (0, 0, 0, 0))], (9,)), ("b", [], (9, 0))])
        self.assertEqual(family.misled("a"), [3])
        family = family_of([("a", [(8, (0, 1)), (3, (0, 7, 7)), (5, (0, 0, 0, 0))], (9,)), ("b", [], (9, 0, 1, 0))])
        self.assertEqual(family.misled("a"), [8, 3])

    def test_a_word_that_ends_with_the_mark_and_one_that_goes_beyond(self):
        table = [(1, (0, 1)), (2, (2, 3, 4)), (4, (2, 3, 5, 6))]
        for rest, told in (((0, 1), [1]), ((0,), [1]), ((2, 3, 5), [4]), ((2, 3), [2]), ((0, 1, 2), [1, 2]), ((1,), None),
                           ((0, 2), None), ((2, 3, 6), None), ((0, 1, 1), None)):
            family = family_of([("a", table, (9,)), ("b", table, (9,) + rest)])
            self.assertEqual(family.misled("a"), told, rest)
            self.assertIsNone(family.misled("b"))

    def test_mistaken_by_chance(self):
        for members in some_members(73, 60):
            family = family_of(members)
            for name, table, mark in members:
                for size in range(3):
                    for text in itertools.product([sign for sign, word in table], repeat=size):
                        handed = list(text)
                        told = by_mark_so(members, list(mark) + written(table, handed)) != [name]
                        self.assertIs(family.mistaken(name, handed), told)
                        self.assertEqual(handed, list(text))

    def test_misled_by_chance(self):
        for members in some_members(74, 250):
            family = family_of(members)
            for name, table, mark in members:
                self.assertEqual(family.misled(name), misled_so(members, name, 3), (members, name))

    def test_told_lists_may_be_changed(self):
        family = family_of([("a", SMALL, (9,)), ("b", SMALL, (9, 0)), ("c", WIDE, ())])
        asks = [family.names, lambda: family.fitting([0]), lambda: family.marked("a", [1]), lambda: family.by_mark([9]),
                lambda: family.opened([9, 7, 0])[1], lambda: family.misled("a"), lambda: family.misled("c"),
                lambda: family.marked("c", []), lambda: family.by_mark([])]
        for ask in asks:
            told = ask()
            kept = list(told)
            again = ask()
            self.assertIsInstance(told, list)
            told.append(77)
            self.assertEqual((again, ask()), (kept, kept))
        self.assertEqual((family.names(), family.mark("a"), family.mark("c")), (["a", "b", "c"], (9,), ()))


if __name__ == "__main__":
    unittest.main()

"""Points 13 and 14, and 5 (b): rows read by pieces."""

import itertools
import random
import unittest

from helping import certain_so, cuts_of, full_table, rows_of, some_tables, spill_so
from skewread.codes import Code
from skewread.losses import spill
from skewread.pieces import Reader, read_pieces

TABLE = [(0, (0,)), (5, (255, 1)), (10 ** 9, (255, 2, 3, 4)), (7, (3, 3))]
NESTED = [(1, (7, 0, 255, 0)), (2, (0, 255, 7)), (3, (255,)), (4, (0, 7))]
LONG = [(1, (7, 7, 7, 7)), (2, (7, 7, 0)), (3, (0, 0))]


def some_cut(chance, row):
    """The row in pieces by chance, some of them of none."""
    places = sorted(chance.randrange(len(row) + 1) for turn in range(chance.randrange(12)))
    return [row[start:end] for start, end in zip([0] + places, places + [len(row)])]


class Feeding(unittest.TestCase):

    def check(self, table, pieces, alphabet=(0, 7, 255)):
        """Each piece tells just what it makes certain; the finish tells the rest."""
        reader = Reader(Code(table))
        came, told = [], []
        for piece in pieces:
            handed = list(piece)
            entries = reader.feed(handed)
            self.assertEqual(handed, piece)
            came += piece
            told += entries
            self.assertEqual(told, certain_so(table, came, alphabet), (table, pieces))
            self.assertIn(reader.held(), [came[place:] for place in range(len(came) + 1)])
            self.assertEqual(told + spill_so(table, reader.held()), spill_so(table, came))
        self.assertEqual(told + reader.finish(), spill_so(table, came))
        self.assertEqual((reader.held(), reader.finish()), ([], []))

    def test_by_hand(self):
        reader = Reader(Code(TABLE))
        for row, told, held in (
                ([], [], []),
                ([0], [0], []),
                ([255], [], [255]),
                ([], [], [255]),
                ([2], [], [255, 2]),
                ([3], [], [255, 2, 3]),
                ([3], [None, None, 7], []),
                ([255, 2], [], [255, 2]),
                ([3, 4, 9, 255], [10 ** 9, None], [255]),
                ([255], [None], [255]),
                ([1, 3], [5], [3]),
                ([0], [None, 0], [])):
            self.assertEqual(reader.feed(row), told)
            self.assertEqual(reader.held(), held)
        self.assertEqual(reader.finish(), [])

    def test_the_finish_tells_what_is_held(self):
        reader = Reader(Code(TABLE))
        for row, first, last in (([255, 2, 3], [], [None, None, None]), ([0, 3], [0], [None]), ([], [], []),
                                 ([9, 255, 2], [None], [None, None]), ([255, 1], [5], [])):
            self.assertEqual(reader.feed(row), first)
            self.assertEqual(reader.finish(), last)
            self.assertEqual(reader.held(), [])
        nested = Reader(Code(NESTED))
        self.assertEqual(nested.feed([7, 0, 255]), [])
        self.assertEqual(nested.held(), [7, 0, 255])
        self.assertEqual(nested.finish(), [None, None, 3])

    def test_a_word_within_a_word_begun(self):
        nested = Reader(Code(NESTED))
        self.assertEqual(nested.feed([7, 0, 255]), [])
        self.assertEqual(nested.feed([7]), [None, 2])
        self.assertEqual(nested.feed([7, 0]), [])
        self.assertEqual(nested.feed([7]), [None, 4])
        self.assertEqual(nested.held(), [])

    def test_the_code_of_none_holds_nothing(self):
        reader = Reader(Code([]))
        self.assertEqual(reader.feed([0, 255]), [None, None])
        self.assertEqual((reader.held(), reader.finish(), reader.feed([])), ([], [], []))

    def test_all_short_rows_in_all_cuts(self):
        for table in [NESTED, LONG] + some_tables(61, 4):
            for row in rows_of((0, 7, 255), 4):
                for pieces in cuts_of(row):
                    self.check(table, pieces)

    def test_single_bytes_pieces_of_none_and_the_whole(self):
        chance = random.Random(62)
        for table in [NESTED, LONG, []] + some_tables(62, 40):
            for turn in range(3):
                row = [chance.choice([0, 7, 255]) for place in range(chance.randrange(14))]
                self.check(table, [[byte] for byte in row])
                self.check(table, [piece for byte in row for piece in ([], [byte], [])])
                self.check(table, [row])
                self.check(table, [[], row, []])
                self.check(table, some_cut(chance, row))

    def test_a_finished_reader_is_as_new(self):
        for table in [NESTED, LONG] + some_tables(63, 20):
            reader = Reader(Code(table))
            for row in rows_of((0, 7, 255), 3):
                fresh = Reader(Code(table))
                self.assertEqual(reader.feed(row), fresh.feed(row))
                self.assertEqual(reader.held(), fresh.held())
                self.assertEqual(reader.finish(), fresh.finish())


class Pieces(unittest.TestCase):

    def test_of_no_rows(self):
        for table in ([], TABLE, full_table()):
            self.assertEqual(read_pieces(Code(table), []), [])
            self.assertEqual(read_pieces(Code(table), [[]]), [])
            self.assertEqual(read_pieces(Code(table), [[]] * 800), [])

    def test_however_it_is_cut(self):
        chance = random.Random(64)
        for table in [NESTED, LONG, TABLE, []] + some_tables(64, 60):
            code = Code(table)
            for turn in range(4):
                row = [chance.choice([0, 7, 255, 1, 2, 3]) for place in range(chance.randrange(60))]
                for pieces in ([row], [[byte] for byte in row], some_cut(chance, row), some_cut(chance, row)):
                    handed = [list(piece) for piece in pieces]
                    self.assertEqual(read_pieces(code, handed), spill_so(table, row))
                    self.assertEqual(handed, pieces)

    def test_long_rows(self):
        chance = random.Random(65)
        for table, row in ((full_table(), [chance.choice([0, 5, 198, 199, 200, 200]) for place in range(800)]),
                           (TABLE, [255, 2, 3] * 266), (TABLE, [255, 2, 3, 4] * 200), (LONG, [7] * 799), ([], [0] * 800)):
            code = Code(table)
            for pieces in ([row], [[byte] for byte in row], some_cut(chance, row)):
                self.assertEqual(read_pieces(code, pieces), spill_so(table, row))

    def test_handed_rows_may_be_changed_behind(self):
        reader = Reader(Code(TABLE))
        row = [255, 2]
        reader.feed(row)
        row.append(9)
        self.assertEqual(reader.held(), [255, 2])
        self.assertEqual(reader.feed([3, 4]), [10 ** 9])

    def test_told_lists_may_be_changed(self):
        reader = Reader(Code(TABLE))
        told = reader.feed([0, 255])
        held = reader.held()
        again = reader.held()
        told.append(3)
        held.append(3)
        self.assertEqual((again, reader.held()), ([255], [255]))
        for row in (reader.swaying(), reader.apart(Reader(Code(TABLE)))):
            row.clear()
        self.assertEqual((reader.swaying(), reader.held()), ([1], [255]))
        last = reader.finish()
        last.append(5)
        self.assertEqual((reader.finish(), reader.held(), reader.feed([0])), ([], [], [0]))
        none = reader.feed([])
        none.append(1)
        self.assertEqual((reader.held(), reader.feed([])), ([], []))
        told = read_pieces(Code(TABLE), [[0]])
        told.clear()
        self.assertEqual(read_pieces(Code(TABLE), [[0]]), [0])

    def test_what_only_asks_changes_nothing(self):
        reader, other = Reader(Code(TABLE)), Reader(Code(TABLE))
        reader.feed([255, 2])
        for turn in range(2):
            self.assertEqual(reader.held(), [255, 2])
            self.assertEqual(reader.swaying(), [3, 4])
            self.assertEqual(other.apart(reader), reader.apart(other))
            self.assertEqual((reader.twin().held(), other.held()), ([255, 2], []))
        self.assertEqual(reader.feed([3, 4]), [10 ** 9])


class Twins(unittest.TestCase):

    def test_a_twin_goes_on_from_here_and_apart(self):
        reader = Reader(Code(TABLE))
        self.assertEqual(reader.feed([0, 255, 2]), [0])
        twin = reader.twin()
        self.assertEqual(twin.held(), [255, 2])
        self.assertEqual(reader.feed([3, 4]), [10 ** 9])
        self.assertEqual(twin.held(), [255, 2])
        self.assertEqual(twin.feed([3]), [])
        self.assertEqual((reader.held(), twin.held()), ([], [255, 2, 3]))
        self.assertEqual(twin.finish(), [None, None, None])
        self.assertEqual(reader.feed([255]), [])
        self.assertEqual((twin.held(), twin.feed([1])), ([], [None]))
        self.assertEqual(reader.feed([1]), [5])

    def test_a_twin_finished_leaves_the_first_as_it_was(self):
        reader = Reader(Code(TABLE))
        reader.feed([255, 2])
        self.assertEqual(reader.twin().finish(), [None, None])
        self.assertEqual(reader.twin().twin().feed([3, 4]), [10 ** 9])
        self.assertEqual(reader.held(), [255, 2])
        other = reader.twin()
        reader.finish()
        self.assertEqual(other.held(), [255, 2])

    def test_twins_of_all_short_rows(self):
        for table in [NESTED, LONG] + some_tables(66, 15):
            for row in rows_of((0, 7, 255), 3):
                for behind in ([], [0], [255, 7], [7, 0, 255]):
                    reader = Reader(Code(table))
                    told = reader.feed(row)
                    twin = reader.twin()
                    reader.feed([0, 7])
                    more = twin.feed(behind)
                    self.assertEqual(told + more, certain_so(table, row + behind))
                    self.assertEqual(told + more + twin.finish(), spill_so(table, row + behind))

    def test_lay(self):
        reader, other = Reader(Code(TABLE)), Reader(Code(TABLE))
        reader.feed([255, 2])
        other.feed([3])
        self.assertIsNone(other.lay(reader.held()))
        self.assertEqual(other.held(), [255, 2])
        self.assertEqual(other.feed([3, 4]), [10 ** 9])
        self.assertEqual(reader.held(), [255, 2])
        reader.lay([])
        self.assertEqual((reader.held(), reader.finish()), ([], []))
        row = [255]
        reader.lay(row)
        row.append(2)
        self.assertEqual(reader.held(), [255])
        self.assertEqual(reader.feed([1, 0]), [5, 0])
        reader.lay([255, 2])
        self.assertEqual(reader.finish(), [None, None])
        self.assertEqual(reader.finish(), [])

    def test_lay_of_all_that_is_held(self):
        for table in [NESTED, LONG] + some_tables(67, 15):
            for row in rows_of((0, 7, 255), 3):
                reader, laid = Reader(Code(table)), Reader(Code(table))
                laid.feed([7, 255, 0])
                reader.feed(row)
                laid.lay(reader.held())
                for behind in ([7], [], [0, 255], [7, 7, 7, 0]):
                    self.assertEqual(laid.feed(behind), reader.feed(behind))
                    self.assertEqual(laid.held(), reader.held())
                self.assertEqual(laid.finish(), reader.finish())


class Held(unittest.TestCase):

    def readers(self, table):
        """A reader behind each short row."""
        for row in rows_of((0, 7, 255), 4):
            reader = Reader(Code(table))
            reader.feed(row)
            yield reader

    def test_held_is_of_none_or_live(self):
        for table in [NESTED, LONG, []] + some_tables(68, 30):
            code = Code(table)
            for reader in self.readers(table):
                held = reader.held()
                self.assertTrue(held == [] or any(list(word[:len(held)]) == held and len(held) < len(word)
                                                  for sign, word in table))
                self.assertTrue(held == [] or code.live(held))

    def test_swaying(self):
        reader = Reader(Code(TABLE))
        self.assertIsNone(reader.swaying())
        reader.feed([0, 255, 2, 3])
        self.assertEqual(reader.swaying(), [4])
        reader.feed([4])
        self.assertIsNone(reader.swaying())
        for table in [NESTED, LONG, full_table(), []] + some_tables(69, 30):
            for reader in self.readers(table):
                row = reader.swaying()
                if reader.held() == []:
                    self.assertIsNone(row)
                    continue
                self.assertLessEqual(len(row), 4)
                self.assertIsNone(reader.twin().finish()[0])
                self.assertIn(reader.twin().feed(row)[0], [sign for sign, word in table])

    def test_apart(self):
        for table in [NESTED, LONG, full_table(), []] + some_tables(70, 15):
            held = {tuple(reader.held()): reader for reader in self.readers(table)}
            for one, other in itertools.product(held.values(), repeat=2):
                row = one.apart(other)
                if one.held() == other.held():
                    self.assertIsNone(row)
                    continue
                self.assertLessEqual(len(row), 4)
                told = [twin.feed(row) + twin.finish() for twin in (one.twin(), other.twin())]
                self.assertNotEqual(told[0], told[1], (table, one.held(), other.held()))

    def test_apart_of_readers_that_came_otherwise_to_the_same(self):
        one, other = Reader(Code(TABLE)), Reader(Code(TABLE[::-1]))
        one.feed([0, 0, 255])
        other.feed([9, 255, 255])
        self.assertIsNone(one.apart(other))
        self.assertIsNone(one.apart(one))
        self.assertIsNone(one.apart(one.twin()))
        self.assertIsNone(Reader(Code([])).apart(Reader(Code([]))))
        other.finish()
        for row in (one.apart(other), other.apart(one)):
            self.assertNotEqual(spill(Code(TABLE), [255] + row), spill(Code(TABLE), row))


if __name__ == "__main__":
    unittest.main()

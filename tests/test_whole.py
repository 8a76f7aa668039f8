"""Point 5, (a) to (g), over the whole program; and point 4: what is refused changes nothing."""

import itertools
import random
import unittest

from helping import (begins, certain_so, cuts_of, family_of, full_table, rows_of, some_families, some_loose_tables,
                     some_small_tables, some_tables)
from skewread.codes import Code
from skewread.doubts import doubts, open_places, sure_signs
from skewread.errors import NoReading, NoSign, NoWay, TooMany
from skewread.loose import all_readings, reading_count
from skewread.losses import carried, lost_places, spill, spilt
from skewread.mendings import mendings, roots, ways_between
from skewread.originals import all_originals, least_original, original_count
from skewread.overhangs import overhangs, shows_one_way
from skewread.pairs import merging, unread_sign
from skewread.pieces import Reader, read_pieces
from skewread.reading import read
from skewread.states import shows_apart, state_paper
from skewread.twofold import twofold
from skewread.verdicts import verdicts
from skewread.ways import astray, mended
from skewread.writing import lacking, write


def texts_over(signs, most):
    """All texts of these signs, of so many at most."""
    return [list(text) for size in range(most + 1) for text in itertools.product(signs, repeat=size)]


def uncovered(table, row):
    """The places that no told sign's word covers, as the words stand in the row from the left."""
    covered = 0
    places = []
    for place in range(len(row)):
        if place >= covered:
            found = [word for sign, word in table if begins(word, row[place:])]
            covered = place + len(found[0]) if found else covered
            if not found:
                places.append(place)
    return places


class Whole(unittest.TestCase):

    def test_what_is_written_is_read_back(self):
        chance = random.Random(51)
        for table in some_tables(51, 150) + [full_table()]:
            code = Code(table)
            for size in (0, 1, 2, 17, 200):
                text = [chance.choice(table)[0] for place in range(size)] if table else []
                row = write(code, text)
                self.assertEqual(read(code, row), text)
                self.assertEqual(spill(code, row), text)
                self.assertEqual(carried(code, code, text), text)

    def test_what_is_read_writes_back_the_same_bytes(self):
        for table in some_tables(52, 80):
            code = Code(table)
            for row in rows_of((0, 7, 255), 5):
                try:
                    text = read(code, row)
                except NoReading as refusal:
                    self.assertEqual(lost_places(code, row)[0], refusal.at)
                else:
                    self.assertEqual(write(code, text), row)
                    self.assertEqual(lost_places(code, row), [])

    def test_a_reading_loses_just_the_bytes_at_which_no_word_stands(self):
        for table in some_tables(53, 80):
            code = Code(table)
            for row in rows_of((0, 7, 255), 5):
                lost = uncovered(table, row)
                self.assertEqual(lost_places(code, row), lost)
                back = [(place, [row[place]] if entry is None else list(code.word(entry)))
                        for place, entry in spilt(code, row)]
                self.assertEqual([byte for place, part in back for byte in part], row)
                self.assertTrue(all(begins(part, row[place:]) for place, part in back))

    def test_rows_cut_anywhere(self):
        chance = random.Random(54)
        for table in some_tables(54, 60):
            code = Code(table)
            for turn in range(4):
                row = [chance.choice([0, 7, 255]) for place in range(6)]
                for rows in cuts_of(row):
                    self.assertEqual(read_pieces(code, rows), spill(code, row))
                reader = Reader(code)
                told = []
                for place, byte in enumerate(row):
                    told += reader.feed([byte])
                    self.assertEqual(told, certain_so(table, row[:place + 1]))
                self.assertEqual(told + reader.finish(), spill(code, row))

    def test_readers_hold_back_the_least(self):
        for table in some_tables(55, 60):
            code = Code(table)
            readers = []
            for row in rows_of((0, 7, 255), 3):
                reader = Reader(code)
                reader.feed(row)
                readers.append(reader)
            for one, other in zip(readers, readers[::-1]):
                row = one.apart(other)
                self.assertIs(row is None, one.held() == other.held())
                if row is not None:
                    twins = (one.twin(), other.twin())
                    self.assertNotEqual(*[twin.feed(row) + twin.finish() for twin in twins])

    def test_no_marked_text_is_mistaken_or_the_least_is_told(self):
        seen = {True: 0, False: 0}
        for members in some_families(56, 150):
            family = family_of(members)
            for name, table, mark in members:
                texts = texts_over(sorted(sign for sign, word in table), 3)
                mistaken = [text for text in texts if family.mistaken(name, text)]
                told = family.misled(name)
                self.assertEqual(told, mistaken[0] if mistaken else None)
                for text in texts:
                    if text not in mistaken:
                        self.assertEqual(family.opened(family.marked(name, text)), (name, text))
                seen[told is None] += len(mark) > 0
        self.assertGreater(min(seen.values()), 20)

    def test_tables_read_in_one_way_or_two_texts_are_told(self):
        for table in some_loose_tables(57, 200):
            told = twofold(table)
            self.assertIs(shows_one_way(table, overhangs(table)), told is None)
            for row in rows_of((0, 1), 7):
                if told is None:
                    self.assertLess(reading_count(table, row), 2)
                elif reading_count(table, row) > 1:
                    self.assertGreaterEqual(len(row), sum(len(dict(table)[sign]) for sign in told[0]))
                    if reading_count(table, row) <= 200:
                        self.assertEqual(len(all_readings(table, row, 200)), reading_count(table, row))

    def test_mendings_are_the_ways_astray(self):
        chance = random.Random(58)
        seen = 0
        for members in some_families(58, 200):
            family = family_of(members)
            names = family.names()
            for turn in range(10 if len(names) > 1 else 0):
                way = [tuple(chance.sample(names, 2)) for leg in range(chance.choice([1, 2, 3]))]
                text = [chance.randrange(3) for place in range(chance.randrange(1, 5))]
                try:
                    end = astray(family, text, way)
                    told = mendings(family, end, len(way), 200)
                except (NoWay, TooMany):
                    continue
                self.assertIn((way, text), told)
                self.assertIn(text, roots(family, end, len(way), 200))
                self.assertIn(way, ways_between(family, text, end, len(way), 200))
                self.assertTrue(all(mended(family, end, other) == root for other, root in told))
                self.assertTrue(all(astray(family, root, other) == end for other, root in told))
                seen += 1
        self.assertGreater(seen, 50)

    def test_what_a_leaving_can_have_been(self):
        for one, other in zip(some_small_tables(59, 150, most=5), some_small_tables(60, 150, most=6)):
            codes = (Code(one), Code(other))
            for text in texts_over([sign for sign, word in one], 3):
                entries = carried(codes[0], codes[1], text)
                count = original_count(codes[0], codes[1], entries)
                told = all_originals(codes[0], codes[1], entries, 200)
                self.assertIn(text, told)
                self.assertEqual((len(told), told[0]), (count, least_original(codes[0], codes[1], entries)))
                places = [list(zip(self.places(codes[0], found), found)) for found in told]
                sure = [pair for pair in places[0] if all(pair in others for others in places)]
                self.assertEqual(sure_signs(codes[0], codes[1], entries), sure)
                self.assertEqual(sum(line[2] for line in doubts(codes[0], codes[1], entries)), sum(map(len, told)))
                self.assertEqual(len(open_places(codes[0], codes[1], entries)),
                                 len(write(codes[0], text)) - sum(len(codes[0].word(sign)) for place, sign in sure))

    def places(self, code, text):
        """The places of bytes from which the signs' words stand."""
        return [len(write(code, text[:number])) for number in range(len(text))]

    def test_pairs_of_codes(self):
        seen = {True: 0, False: 0}
        for one, other in zip(some_small_tables(61, 300, most=5), some_small_tables(62, 300, most=6)):
            codes = (Code(one), Code(other))
            paper = state_paper(codes[0], codes[1])
            told = merging(codes[0], codes[1])
            self.assertNotEqual(paper is None, told is None)
            self.assertIs(shows_apart(codes[0], codes[1], paper or []), paper is not None)
            if told is None:
                for text in texts_over([sign for sign, word in one], 3):
                    self.assertEqual(original_count(codes[0], codes[1], carried(codes[0], codes[1], text)), 1)
            else:
                entries = carried(codes[0], codes[1], told[0])
                self.assertEqual(entries, carried(codes[0], codes[1], told[1]))
                self.assertGreater(original_count(codes[0], codes[1], entries), 1)
                self.assertIsNotNone(unread_sign(codes[0], codes[1]))
            seen[told is None] += len(one) > 1
            word = verdicts(family_of([("a", one, ()), ("b", other, ())]))[0][2]
            self.assertEqual(word == "merging", told is not None)
        self.assertGreater(min(seen.values()), 40)

    def test_what_is_refused_changes_nothing(self):
        table = [(1, (1,)), (2, (2, 2))]
        code = Code(table)
        text, row = [1, 3], [1, 2]
        for turn in range(2):
            with self.assertRaises(NoSign):
                write(code, text)
            with self.assertRaises(NoSign):
                carried(code, code, text)
            with self.assertRaises(NoReading):
                read(code, row)
            self.assertEqual((text, row, code.table()), ([1, 3], [1, 2], table))
            self.assertEqual(write(code, [2, 1]), [2, 2, 1])
            self.assertEqual(read(code, [2, 2, 1]), [2, 1])
            self.assertEqual(lacking(code, text), [1])


if __name__ == "__main__":
    unittest.main()

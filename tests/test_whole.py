"""Point 5 (a): writing, reading and losing together; and point 4: what is refused changes nothing."""

import random
import unittest

from helping import begins, full_table, rows_of, some_tables
from skewread.codes import Code
from skewread.errors import NoReading, NoSign
from skewread.losses import carried, lost_places, spill, spilt
from skewread.reading import read
from skewread.writing import lacking, write


def uncovered(table, row):
    """The places that no told sign's word covers, as the words stand in the row from the left."""
    covered = 0
    places = []
    for place in range(len(row)):
        if place >= covered:
            found = [word for sign, word in table if begins(word, row[place:])]
            covered = place + len(found[0]) if found else covered
            if not found:
                places.append(place)
    return places


class Whole(unittest.TestCase):

    def test_what_is_written_is_read_back(self):
        chance = random.Random(51)
        for table in some_tables(51, 150) + [full_table()]:
            code = Code(table)
            for size in (0, 1, 2, 17, 200):
                text = [chance.choice(table)[0] for place in range(size)] if table else []
                row = write(code, text)
                self.assertEqual(read(code, row), text)
                self.assertEqual(spill(code, row), text)
                self.assertEqual(carried(code, code, text), text)

    def test_what_is_read_writes_back_the_same_bytes(self):
        for table in some_tables(52, 80):
            code = Code(table)
            for row in rows_of((0, 7, 255), 5):
                try:
                    text = read(code, row)
                except NoReading as refusal:
                    self.assertEqual(lost_places(code, row)[0], refusal.at)
                else:
                    self.assertEqual(write(code, text), row)
                    self.assertEqual(lost_places(code, row), [])

    def test_a_reading_loses_just_the_bytes_at_which_no_word_stands(self):
        for table in some_tables(53, 80):
            code = Code(table)
            for row in rows_of((0, 7, 255), 5):
                lost = uncovered(table, row)
                self.assertEqual(lost_places(code, row), lost)
                back = [(place, [row[place]] if entry is None else list(code.word(entry)))
                        for place, entry in spilt(code, row)]
                self.assertEqual([byte for place, part in back for byte in part], row)
                self.assertTrue(all(begins(part, row[place:]) for place, part in back))

    def test_what_is_refused_changes_nothing(self):
        table = [(1, (1,)), (2, (2, 2))]
        code = Code(table)
        text, row = [1, 3], [1, 2]
        for turn in range(2):
            with self.assertRaises(NoSign):
                write(code, text)
            with self.assertRaises(NoSign):
                carried(code, code, text)
            with self.assertRaises(NoReading):
                read(code, row)
            self.assertEqual((text, row, code.table()), ([1, 3], [1, 2], table))
            self.assertEqual(write(code, [2, 1]), [2, 2, 1])
            self.assertEqual(read(code, [2, 2, 1]), [2, 1])
            self.assertEqual(lacking(code, text), [1])


if __name__ == "__main__":
    unittest.main()

"""Point 31: what the desk answers, and what it refuses of lines that it knows."""

import random
import unittest

from helping import check_refused, family_of, some_small_tables
from skewread.codes import Code
from skewread.desk import Desk
from skewread.doubts import sure_signs
from skewread.errors import (Begins, NoMark, NoName, NoOriginal, NoReading, NoSign, NoWay, SkewError, Taken, TooMany, Twice,
                             TwoMarks)
from skewread.lines import show_entries, show_row, show_text
from skewread.losses import lost_places, spill
from skewread.mendings import mendings
from skewread.originals import least_original, original_count
from skewread.pairs import merging
from skewread.pieces import Reader
from skewread.reading import read
from skewread.twofold import twofold
from skewread.ways import astray, mended
from skewread.writing import write

TOLD = ["code bits - 1=00,2=01", "code wide ef 1=0001,2=01,9=ff", "code lossy efbb 7=0000", "code bare - -",
        "code paired 0102 5=0000,6=01"]

# Lines and their answers, in the order in which they are said to one desk that was told the codes above.
ANSWERED = [
    ("write bits 1.2.2", "000101"), ("write bits -", "-"), ("write wide 9", "ff"), ("write bare -", "-"),
    ("read bits 000101", "1.2.2"), ("read bits -", "-"), ("read wide 0001ff01", "1.9.2"), ("read bare -", "-"),
    ("spill wide 000001ff", "?.1.9"), ("spill bare 0a0b", "?.?"), ("spill wide -", "-"), ("spill lossy 000000", "7.?"),
    ("lost wide 00000100", "0.3"), ("lost wide 01", "-"), ("lost bare 0a0b", "0.1"), ("lost bits -", "-"),
    ("held wide", "-"), ("feed wide 0100", "2"), ("held wide", "00"), ("feed wide -", "-"), ("feed wide 01", "1"),
    ("held wide", "-"), ("feed wide 00", "-"), ("finish wide", "?"), ("held wide", "-"), ("finish wide", "-"),
    ("feed lossy 000000", "7"), ("held lossy", "00"), ("feed lossy 05", "?.?"), ("feed bare 0102", "?.?"), ("held bare", "-"),
    ("marked bits 1.2", "0001"), ("marked wide 1", "ef0001"), ("marked lossy -", "efbb"), ("marked paired 5", "01020000"),
    ("open ef0001", "wide 1"), ("open efbb0000", "lossy 7"), ("open ef", "wide -"), ("open 0102", "paired -"),
    ("fits 0001", "bits,wide"), ("fits -", "bits,wide,lossy,bare,paired"), ("fits 0000", "bits,lossy,paired"),
    ("fits ff", "wide"), ("fits ee", "-"), ("fits 00000000", "bits,lossy,paired"), ("fits 01", "bits,wide,paired"),
    ("misled bits", "-"), ("misled wide", "never"), ("misled lossy", "never"), ("misled bare", "-"),
    ("astray wide>bits 1.2", "1.2.2"), ("astray bits>bits 1.2", "1.2"), ("astray lossy>bits,bits>lossy 7", "7"),
    ("astray lossy>bits,bits>paired,paired>bits 7.7", "1.1.1.1"), ("astray bits>wide,wide>bits 1.2.2", "1.2.2"),
    ("astray bare>bare -", "-"),
    ("mend wide>bits 1.2.2", "1.2"), ("mend lossy>bits,bits>paired 5", "7"), ("mend bits>bare -", "-"),
    ("mendings 1 200 77", "none"), ("mendings 3 0 77.78", "none"), ("mendings 1 5 9", "none"),
    ("mendings 1 200 1.2.2", "bits>wide=1.2.2.2;wide>bits=1.2"),
    ("mendings 1 2 1.2.2", "bits>wide=1.2.2.2;wide>bits=1.2"),
    ("mendings 1 2 7", "bits>lossy=1.1;paired>lossy=5"),
    ("mendings 2 200 9", "none"),
    ("mendings 2 10 6", "bits>paired=2;wide>paired=2;bits>wide,bits>paired=2;bits>wide,wide>paired=2;"
     "wide>bits,bits>paired=2;wide>bits,wide>paired=2;paired>bits,bits>paired=6;paired>bits,wide>paired=6;"
     "paired>wide,bits>paired=6;paired>wide,wide>paired=6"),
    ("count bits lossy 7.?", "2"), ("count bits lossy -", "1"), ("count bits bits 7", "0"), ("count bare bits 1", "0"),
    ("count bits bare " + ".".join("?" * 40), str(2 ** 40)), ("count bits bits ?", "0"),
    ("least bits lossy 7.?", "1.1.1"), ("least bits lossy ?.?", "1.2"), ("least bits lossy -", "-"),
    ("sure bits lossy 7.?", "0=1,1=1"), ("sure bits lossy ?.?", "-"), ("sure bits lossy -", "-"),
    ("sure wide bits 1.2.2", "0=1,2=2"), ("sure lossy bits 1.1.1.1", "0=7,2=7"),
    ("pair bits lossy", "1 2"), ("pair bits paired", "apart"), ("pair bits bits", "apart"), ("pair bare bits", "apart"),
    ("pair wide bare", "2 9"), ("pair bits bare", "1 2"), ("pair lossy bare", "apart"),
    ("loose -", "one"), ("loose 1=00", "one"), ("loose 1=00,2=0001", "one"), ("loose 1=00,2=0001,3=0100", "1.3 2.1"),
    ("loose 5=00,3=00", "3 5"), ("loose 1000000000=00010203,0=0001,7=0203", "0.7 1000000000"),
]


def desk_of(lines):
    desk = Desk()
    for line in lines:
        desk.say(line)
    return desk


def show_table(table):
    return ",".join(f"{sign}={show_row(word)}" for sign, word in table) or "-"


def show_way(way):
    return ",".join(f"{first}>{second}" for first, second in way)


def show_two(texts, without):
    return " ".join(show_text(text) for text in texts) if texts else without


class Answers(unittest.TestCase):

    def test_by_hand(self):
        desk = Desk()
        for line in TOLD:
            self.assertEqual(desk.say(line), "ok")
        for line, answer in ANSWERED:
            self.assertEqual(desk.say(line), answer, line)

    def test_a_new_desk(self):
        desk = Desk()
        self.assertEqual(desk.say("fits 00"), "-")
        self.assertEqual(desk.say("fits -"), "-")
        self.assertEqual(desk.say("mendings 3 0 -"), "none")
        check_refused(self, lambda: desk.say("open 00"), NoMark)
        check_refused(self, lambda: desk.say("held a"), NoName, "a")

    def test_the_bounds(self):
        desk = Desk()
        table = ",".join(f"{sign}={sign:02x}" for sign in range(23)) + ",1000000000=fffefdfc"
        self.assertEqual(desk.say("code abcdefgh 00010203 " + table), "ok")
        self.assertEqual(desk.say("code z - -"), "ok")
        text = ".".join(["1000000000"] * 200)
        row = "fffefdfc" * 200
        self.assertEqual(desk.say("write abcdefgh " + text), row)
        self.assertEqual(desk.say("read abcdefgh " + row), text)
        self.assertEqual(desk.say("spill z " + row), ".".join(["?"] * 800))
        self.assertEqual(desk.say("lost z " + row), ".".join(str(place) for place in range(800)))
        self.assertEqual(desk.say("feed z " + row), ".".join(["?"] * 800))
        self.assertEqual(desk.say("marked abcdefgh " + text), "00010203" + row)
        self.assertEqual(desk.say("open 00010203" + row[8:]), "abcdefgh " + text[11:])
        self.assertEqual(desk.say("fits " + row), "abcdefgh")
        self.assertEqual(desk.say("astray " + ",".join(["abcdefgh>abcdefgh"] * 3) + " " + text), text)
        self.assertEqual(desk.say("mend abcdefgh>abcdefgh " + text), text)
        forty = ".".join(["1000000000"] * 40)
        self.assertEqual(desk.say("least abcdefgh abcdefgh " + forty), forty)
        self.assertEqual(desk.say("count abcdefgh abcdefgh " + forty), "1")
        self.assertEqual(desk.say("sure abcdefgh abcdefgh " + forty),
                         ",".join(f"{place}=1000000000" for place in range(0, 160, 4)))
        self.assertEqual(desk.say("count abcdefgh z " + ".".join(["?"] * 40)), str(original_count(
            Code([(sign, (sign,)) for sign in range(23)] + [(10 ** 9, (255, 254, 253, 252))]), Code([]), [None] * 40)))
        self.assertEqual(desk.say("loose " + table), "one")

    def test_eight_codes_and_somewhat_more(self):
        desk = Desk()
        names = "h g f e d c b a i j".split()
        for place, name in enumerate(names):
            self.assertEqual(desk.say(f"code {name} - {place}=0{place}"), "ok")
            self.assertEqual(desk.say("fits -"), ",".join(names[:place + 1]))

    def test_codes_of_more_than_eight_signs_in_a_pair(self):
        desk = desk_of(["code a - " + ",".join(f"{sign}={sign:02x}00" for sign in range(10)), "code b - 7=00"])
        self.assertEqual(desk.say("pair a b"), "1 2")
        self.assertEqual(desk.say("pair a a"), "apart")

    def test_answers_are_those_of_the_functions(self):
        chance = random.Random(191)
        for turn in range(60):
            names = ["b", "a", "zz", "ab"]
            members = [(name, table, chance.choice([(), (0,), (1, 1), (1,)]))
                       for name, table in zip(names, some_small_tables(1910 + turn, 4, most=6, longest=3))]
            desk = desk_of([f"code {name} {show_row(mark)} {show_table(table)}" for name, table, mark in members])
            signs = sorted({sign for name, table, mark in members for sign, word in table}) + [3]
            readers = {name: Reader(Code(table)) for name, table, mark in members}
            for line, told in self.some_lines(chance, members, family_of(members), readers, signs):
                self.check(desk, line, told)

    def check(self, desk, line, told):
        """The desk answers, or refuses with the same fields, as the function that is told."""
        try:
            answer = told()
        except SkewError as refusal:
            with self.assertRaises(type(refusal)) as caught:
                desk.say(line)
            self.assertEqual(vars(caught.exception), vars(refusal), line)
        else:
            self.assertEqual(desk.say(line), answer, line)

    def some_lines(self, chance, members, family, readers, signs):
        """Lines by chance, each with what tells its answer."""
        codes = {name: Code(table) for name, table, mark in members}
        for turn in range(12):
            one, other, third = (chance.choice(list(codes)) for name in range(3))
            text = [chance.choice(signs) for place in range(chance.randrange(5))]
            row = [chance.randrange(2) for place in range(chance.randrange(7))]
            entries = [chance.choice(signs + [None, None]) for place in range(chance.randrange(5))]
            way = [(one, other), (other, third), (third, one)][:chance.choice([1, 2, 3])]
            most = chance.choice([0, 1, 5, 200])
            legs = chance.choice([1, 2])
            loose = [(sign, tuple(chance.randrange(2) for byte in range(chance.choice([1, 2, 3]))))
                     for sign in chance.sample(range(9), chance.randrange(5))]
            lines = [show_text(text), show_row(row), show_entries(entries), show_way(way)]
            yield f"write {one} {lines[0]}", lambda: show_row(write(codes[one], text))
            yield f"read {one} {lines[1]}", lambda: show_text(read(codes[one], row))
            yield f"spill {one} {lines[1]}", lambda: show_entries(spill(codes[one], row))
            yield f"lost {one} {lines[1]}", lambda: show_text(lost_places(codes[one], row))
            yield f"feed {one} {lines[1]}", lambda: show_entries(readers[one].feed(row))
            yield f"held {one}", lambda: show_row(readers[one].held())
            if turn % 3 == 2:
                yield f"finish {other}", lambda: show_entries(readers[other].finish())
            yield f"marked {one} {lines[0]}", lambda: show_row(family.marked(one, text))
            yield f"open {lines[1]}", lambda: family.opened(row)[0] + " " + show_text(family.opened(row)[1])
            yield f"fits {lines[1]}", lambda: ",".join(family.fitting(row)) or "-"
            yield f"misled {one}", lambda: "never" if family.misled(one) is None else show_text(family.misled(one))
            yield f"astray {lines[3]} {lines[0]}", lambda: show_text(astray(family, text, way))
            yield f"mend {lines[3]} {lines[0]}", lambda: show_text(mended(family, text, way))
            yield f"mendings {legs} {most} {lines[0]}", lambda: ";".join(
                show_way(found) + "=" + show_text(root) for found, root in mendings(family, text, legs, most)) or "none"
            yield f"count {one} {other} {lines[2]}", lambda: str(original_count(codes[one], codes[other], entries))
            yield f"least {one} {other} {lines[2]}", lambda: show_text(least_original(codes[one], codes[other], entries))
            yield f"sure {one} {other} {lines[2]}", lambda: ",".join(
                f"{place}={sign}" for place, sign in sure_signs(codes[one], codes[other], entries)) or "-"
            yield f"pair {one} {other}", lambda: show_two(merging(codes[one], codes[other]), "apart")
            yield f"loose {show_table(loose)}", lambda: show_two(twofold(loose), "one")


class Refusals(unittest.TestCase):

    def setUp(self):
        self.desk = desk_of(TOLD)

    def refused(self, line, refusal, *fields):
        check_refused(self, lambda: self.desk.say(line), refusal, *fields)

    def test_what_the_functions_refuse(self):
        self.refused("write bits 1.2.3.4", NoSign, 2)
        self.refused("write bare 1", NoSign, 0)
        self.refused("read bits 000102", NoReading, 2)
        self.refused("read wide 01ff00", NoReading, 2)
        self.refused("marked wide 1.7", NoSign, 1)
        self.refused("open 00", NoMark)
        self.refused("open -", NoMark)
        self.refused("open ef01ff00", NoReading, 3)
        self.refused("open efbb00", NoReading, 2)
        self.refused("astray wide>bits,bits>lossy 9", NoWay, 0)
        self.refused("astray wide>bits,bits>lossy 1", NoWay, 1)
        self.refused("astray bits>bits 7", NoWay, 0)
        self.refused("mend wide>bits,bits>lossy 9", NoWay, 1)
        self.refused("mend wide>bits,bits>lossy 7", NoWay, 0)
        self.refused("mendings 1 1 1.2.2", TooMany, 1)
        self.refused("mendings 1 0 1.2.2", TooMany, 0)
        self.refused("mendings 3 200 -", TooMany, 200)
        self.refused("least bits lossy 8", NoOriginal)
        self.refused("least bits bits ?", NoOriginal)
        self.refused("sure bits bits ?", NoOriginal)
        self.refused("sure bare bits 1", NoOriginal)

    def test_two_marks(self):
        self.desk.say("code more ef 7=00")
        self.desk.say("code most ef 7=00")
        self.refused("open ef00", TwoMarks, "wide", "more")

    def test_codes(self):
        self.refused("code bits - 1=00", Taken, "bits")
        self.refused("code bits - 1=00,1=00", Taken, "bits")
        self.refused("code bits - 1=00,2=00", Taken, "bits")
        self.refused("code new - 1=00,2=01,1=02", Twice, 0, 2)
        self.refused("code new - 1=00,1=00", Twice, 0, 1)
        self.refused("code new - 1=00,2=01,3=0102", Begins, 1, 2)
        self.refused("code new - 1=00,2=00", Begins, 0, 1)
        self.refused("code new - 1=00,2=0001,1=02", Begins, 0, 1)
        self.refused("code new - 4=01,1=00,2=00,1=02", Begins, 1, 2)
        self.refused("held new", NoName, "new")
        self.assertEqual(self.desk.say("fits -"), "bits,wide,lossy,bare,paired")
        self.assertEqual(self.desk.say("code new - 1=00,2=01"), "ok")
        self.refused("code new - -", Taken, "new")

    def test_loose_tables(self):
        self.refused("loose 1=00,2=00,1=00", Twice, 0, 2)
        self.refused("loose 1=00,2=00,1=00,2=01", Twice, 0, 2)
        self.refused("loose 5=00,1=00,1=01,5=02", Twice, 1, 2)
        self.refused("loose 5=00,1=00,1=01,1=02", Twice, 1, 2)
        self.refused("loose 0=00,0=0001", Twice, 0, 1)

    def test_names_that_lack(self):
        for line, name in (
                ("write x 77", "x"), ("read x ee", "x"), ("spill x -", "x"), ("lost x -", "x"), ("feed x 00", "x"),
                ("finish x", "x"), ("held x", "x"), ("marked x 77", "x"), ("misled x", "x"), ("astray x>bits 77", "x"),
                ("astray bits>x 77", "x"), ("astray bits>wide,wide>y,x>bits 77", "y"), ("astray y>x,x>y,bits>x 1", "y"),
                ("mend x>bits 77", "x"), ("mend bits>x,y>bits 77", "x"), ("mend bits>wide,wide>bits,bits>y 1", "y"),
                ("count x y 77", "x"), ("count bits y 77", "y"), ("count x bits 77", "x"), ("least x y 77", "x"),
                ("least bits y 77", "y"), ("least x bits 77", "x"), ("sure x y 77", "x"), ("sure bits y 77", "y"),
                ("sure x bits 77", "x"), ("pair x y", "x"), ("pair bits y", "y"), ("pair x bits", "x"), ("pair x x", "x")):
            self.refused(line, NoName, name)
            self.assertEqual(self.desk.say("fits -"), "bits,wide,lossy,bare,paired")

    def test_what_is_refused_changes_nothing(self):
        for line in ("feed wide 00", "feed lossy 00"):
            self.desk.say(line)
        self.test_what_the_functions_refuse()
        self.test_loose_tables()
        self.test_names_that_lack()
        self.refused("code wide - 1=01", Taken, "wide")
        self.refused("code lossy - 1=00,1=00", Taken, "lossy")
        self.assertEqual(self.desk.say("held wide"), "00")
        self.assertEqual(self.desk.say("held lossy"), "00")
        self.test_codes()
        self.assertEqual(self.desk.say("feed wide 01"), "1")
        self.assertEqual(self.desk.say("feed lossy 00"), "7")


class Readers(unittest.TestCase):

    def test_they_do_not_touch_one_another(self):
        desk = desk_of(["code a - 1=000102", "code b - 1=000102,2=03"])
        self.assertEqual(desk.say("feed a 00"), "-")
        self.assertEqual(desk.say("feed b 0001"), "-")
        self.assertEqual([desk.say("held a"), desk.say("held b")], ["00", "0001"])
        self.assertEqual(desk.say("finish a"), "?")
        self.assertEqual([desk.say("held a"), desk.say("held b")], ["-", "0001"])
        self.assertEqual(desk.say("feed b 0203"), "1.2")
        self.assertEqual(desk.say("feed a 02"), "?")

    def test_other_lines_do_not_change_them(self):
        desk = desk_of(["code a - 1=000102"])
        desk.say("feed a 0001")
        for line in ("code b - 1=000102", "read a 000102", "spill a 00", "lost a 00", "write a 1", "marked a 1", "misled a",
                     "fits 00", "astray a>b 1", "mend a>b 1", "mendings 2 200 1", "count a b 1", "least a b 1", "sure a b 1",
                     "pair a b", "loose 1=00", "held a", "held b", "feed b 00", "finish b", "code c 00 -", "feed a -"):
            desk.say(line)
            self.assertEqual(desk.say("held a"), "0001", line)
        self.assertEqual(desk.say("feed a 02"), "1")

    def test_pieces_are_read_as_the_whole(self):
        chance = random.Random(192)
        for turn, table in enumerate(some_small_tables(192, 80, most=6)):
            desk = desk_of(["code a - " + show_table(table)])
            row = [chance.randrange(2) for place in range(12)]
            told = []
            while row:
                size = chance.randrange(1, 5)
                told.append((row[:size], desk.say("feed a " + show_row(row[:size]))))
                row = row[size:]
            answers = [answer for piece, answer in told] + [desk.say("finish a")]
            whole = desk.say("spill a " + show_row([byte for piece, answer in told for byte in piece]))
            self.assertEqual(".".join(answer for answer in answers if answer != "-"), whole)
            self.assertEqual(desk.say("held a"), "-")

    def test_two_desks_share_nothing(self):
        one, other = Desk(), Desk()
        one.say("code a - 1=0001")
        check_refused(self, lambda: other.say("held a"), NoName, "a")
        other.say("code b - 2=00")
        other.say("code a - 3=0002")
        one.say("feed a 00")
        self.assertEqual([one.say("held a"), other.say("held a")], ["00", "-"])
        self.assertEqual([one.say("fits -"), other.say("fits -")], ["a", "b,a"])
        self.assertEqual([one.say("feed a 01"), other.say("feed a 0002")], ["1", "3"])
        check_refused(self, lambda: one.say("held b"), NoName, "b")


if __name__ == "__main__":
    unittest.main()

"""Point 31: the lines that the desk does not know, NoLine first of all."""

import unittest

from helping import check_refused
from skewread.desk import Desk
from skewread.errors import NoLine, SkewError

# A line of each of the twenty kinds, answered by the desk of setUp.
KNOWN = [
    "code new 0102 1=00,2=0102", "write a 1.2", "read a 0001", "spill a 0005", "lost a 0005", "feed a 00", "finish a",
    "held a", "marked a 1.2", "open ee0000", "fits 0001", "misled a", "astray a>b 1.1", "mend b>a,a>b 7", "mendings 2 200 1.2",
    "count a b 7.?", "least a b 7.?", "sure a b 7.?", "pair a b", "loose 1=00,2=0001"]

TEXTS = ["", "00", "01", "1.", ".1", "1..2", "1,2", "-1", "1.-", "1000000001", "10000000000", "1.?", "?", "a", "+1", "1_0",
         "1.01", "--", "0x1", "1.2\n", "\n1", ".".join(["1"] * 201), "1" * 400]
ROWS = ["", "0", "000", "0g", "0A", "FF", "0x00", "--", "-00", "00-", "00.00", "00,00", "0 0", "00\n", "\n", "g", "?",
        "00" * 801, "00" * 800 + "0"]
NAMES = ["", "A", "aB", "abcdefghi", "a1", "1", "a-", "-", "a_b", "a,b", "a>b", "?", "a\n", "\na", "a.b", "a=b"]
ENTRIES = ["", "?.", ".?", "??", "1.?.", "01", "1000000001", "-.?", "a", "?\n", ".".join(["?"] * 41), ".".join(["1"] * 41),
           ".".join(["?"] * 801)]
MARKS = ROWS + ["0001020304", "00" * 5, "00" * 800]
TABLES = ["", "1", "1=", "=00", "1=-", "-=00", "1=0", "1=000", "1=0001020304", "1=00,", ",1=00", "1=00,,2=01", "1=00;2=01",
          "1=00=01", "1==00", "01=00", "1000000001=00", "1.2=00", "?=00", "1=00,2", "1=0G", "1=FF", "--", "-,1=00", "1=00,-",
          "1>00", "a=00", "1=00\n", "1=00,\n2=01", ",".join(f"{sign}={sign:02x}" for sign in range(25)), "+1=00", "1=?"]
WAYS = ["", "-", "a", "a>", ">b", "a>b>a", "a>>b", "a>b,", ",a>b", "a>b,,a>b", "a>b;b>a", "a>b,b>a,a>b,b>a", "A>b", "a>B",
        "a>abcdefghi", "a<b", "a=b", "a>b\n", "a>1", "a>-"]
LEGS = ["", "0", "4", "01", "-", "1.1", "10", "?", "one", "+1", "-1", "1\n"]
MOSTS = ["", "201", "00", "01", "0200", "-", "1.1", "1000", "1000000000", "?", "-1", "+1", "2_0", "200\n"]
THINGS = {"NAME": NAMES, "TEXT": TEXTS, "ROW": ROWS, "ENTRIES": ENTRIES, "MARK": MARKS, "TABLE": TABLES, "WAY": WAYS,
          "LEGS": LEGS, "MOST": MOSTS}

# Each kind of line as the document writes it, and with what is in order in each place.
FORMS = [
    "code NAME MARK TABLE", "write NAME TEXT", "read NAME ROW", "spill NAME ROW", "lost NAME ROW", "feed NAME ROW",
    "finish NAME", "held NAME", "marked NAME TEXT", "open ROW", "fits ROW", "misled NAME", "astray WAY TEXT", "mend WAY TEXT",
    "mendings LEGS MOST TEXT", "count NAME NAME ENTRIES", "least NAME NAME ENTRIES", "sure NAME NAME ENTRIES",
    "pair NAME NAME", "loose TABLE"]
IN_ORDER = {"NAME": ["a", "x"], "TEXT": ["-", "77"], "ROW": ["-", "fe"], "ENTRIES": ["?", "77"], "MARK": ["-", "ee"],
            "TABLE": ["-", "1=00,1=00", "1=00,2=00"], "WAY": ["a>b", "x>a,a>y"], "LEGS": ["1"], "MOST": ["0"]}


class NoLines(unittest.TestCase):

    def setUp(self):
        self.desk = Desk()
        self.desk.say("code a - 1=00,2=01")
        self.desk.say("code b ee 7=0000")
        self.desk.say("feed b 00")

    def refused(self, line):
        check_refused(self, lambda: self.desk.say(line), NoLine)

    def tearDown(self):
        self.assertEqual(self.desk.say("held b"), "00")
        self.assertEqual(self.desk.say("fits -")[:3], "a,b")

    def test_the_known_lines_are_known(self):
        self.assertEqual([line.split()[0] for line in KNOWN], [form.split()[0] for form in FORMS])
        for line in KNOWN:
            self.assertIsInstance(self.desk.say(line), str)

    def test_lines_of_nothing_known(self):
        for line in ("", " ", "\n", "-", "?", "hello", "codes a - -", "cod a - -", "writes a 1", "say a", "twin a", "lay a 00",
                     "swaying a", "apart a b", "names", "mark a", "help", "roots 1 200 1", "trail a>b 1", "verdicts",
                     "all a b ?", "doubts a b ?", "telling a b", "a", "1", "00", "code", "0", "lacking a 1", "by_mark ee"):
            self.refused(line)

    def test_blanks(self):
        for line in KNOWN:
            self.refused(" " + line)
            self.refused(line + " ")
            self.refused(line.replace(" ", "  ", 1))
            self.refused("  ".join(line.rsplit(" ", 1)))
            self.refused(line.replace(" ", "", 1))
            self.refused(line.replace(" ", "\t", 1))

    def test_line_feeds(self):
        for line in KNOWN:
            self.refused(line + "\n")
            self.refused("\n" + line)
            self.refused(line.replace(" ", "\n", 1))
            self.refused(line.replace(" ", " \n", 1))
            self.refused(line + "\n" + line)

    def test_a_word_less_or_more(self):
        for line in KNOWN:
            self.refused(line + " a")
            self.refused(line + " -")
            self.refused(line + " 1")
            self.refused(line.split()[0] + " a" + line[len(line.split()[0]):])
            words = line.split()
            for place in range(len(words)):
                self.refused(" ".join(words[:place] + words[place + 1:]))

    def test_great_letters(self):
        for line in KNOWN:
            self.refused(line.upper())
            self.refused(line[0].upper() + line[1:])
            self.refused(line.split()[0].upper() + line[len(line.split()[0]):])

    def test_words_that_show_nothing(self):
        for form in FORMS:
            kinds = form.split()[1:]
            for place, kind in enumerate(kinds):
                for wrong in THINGS[kind]:
                    for turn in range(2):
                        words = [IN_ORDER[other][turn % len(IN_ORDER[other])] for other in kinds]
                        words[place] = wrong
                        line = " ".join([form.split()[0]] + words)
                        with self.assertRaises(NoLine, msg=line):
                            self.desk.say(line)

    def test_no_line_is_first_of_all(self):
        for form in FORMS:
            kinds = form.split()[1:]
            words = [IN_ORDER[kind][-1] for kind in kinds]
            if form.split()[0] not in ("fits", "mendings", "loose"):
                with self.assertRaises(SkewError) as caught:
                    self.desk.say(" ".join([form.split()[0]] + words))
                self.assertNotIsInstance(caught.exception, NoLine, form)
            for place, kind in enumerate(kinds):
                wrong = words[:place] + [THINGS[kind][2]] + words[place + 1:]
                self.refused(" ".join([form.split()[0]] + wrong))

    def test_by_hand(self):
        for line in ("code abcdefghi - -", "code a 0001020304 -", "code c - 1=", "code c - 1=0001020304", "code c - 01=00",
                     "code a - 1=000", "code c - 1000000001=00", "write x 01", "write a 1000000001", "read x 0", "read a 0G",
                     "feed x 000", "open 0", "fits 00 00", "fits", "held", "held a b", "astray a>b,b>a,a>b,b>a 1",
                     "astray - 1", "astray x>y 01", "mend a 1", "mendings 0 200 1", "mendings 4 200 1", "mendings 1 201 1",
                     "mendings 01 1 1", "mendings 1 01 1", "mendings 1 200", "count x y 01", "pair x", "pair a b a", "loose",
                     "loose 1=00,1=0", "loose 1=00 2=01", "write a " + ".".join(["1"] * 201), "read a " + "00" * 801,
                     "count a b " + ".".join(["?"] * 41), "least a b " + ".".join(["?"] * 41),
                     "sure a b " + ".".join(["?"] * 41), "loose " + ",".join(f"{sign}={sign:02x}" for sign in range(25))):
            self.refused(line)

    def test_a_row_that_marked_tells_may_be_more_than_a_line_lets(self):
        self.desk.say("code long 01020304 1=05060708")
        told = self.desk.say("marked long " + ".".join(["1"] * 200))
        self.assertEqual(len(told), 1608)
        self.refused("open " + told)


if __name__ == "__main__":
    unittest.main()

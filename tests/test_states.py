"""Point 29, and of 5 (g) what the closed list of states shows: state_paper, shows_apart."""

import random
import unittest

from helping import originals_by_entries, some_small_tables, states_so
from skewread.codes import Code
from skewread.states import shows_apart, state_paper

FIRST = ((), (), (), False)
BITS = [(1, (0,)), (2, (1,))]
WIDE = [(0, (0, 1, 2)), (1, (2, 2, 1)), (2, (2, 0, 0, 1)), (3, (2, 1, 2, 0)), (4, (1, 0, 2)), (5, (2, 2, 0, 0)), (6, (1, 1)),
        (7, (0, 1, 0))]
WIDE_OTHER = [(0, (0,)), (1, (1, 2, 0, 2)), (2, (1, 0, 2, 1)), (3, (2, 2, 1, 1)), (4, (1, 0, 1, 1)), (5, (1, 1)),
              (6, (2, 0, 2, 2)), (7, (2, 0, 0, 0))]

# Two tables and their papers, walked by hand.
PAPERS = [
    ([], [], [FIRST]),
    ([], BITS, [FIRST]),
    ([(1, (0,))], [], [FIRST]),
    ([(1, (0, 1, 2, 3))], [], [FIRST]),
    (BITS, BITS, [FIRST]),
    (BITS, [(7, (1,)), (5, (0,)), (9, (2,))], [FIRST]),
    ([(1, (0,)), (2, (1, 1))], BITS, [FIRST]),
    ([(3, (0,))], [(5, (0, 0))], [FIRST, ((), (0,), (0,), False)]),
    ([(3, (0,))], [(5, (0, 0, 0, 0))], [FIRST, ((), (0,), (0,), False), ((), (0, 0), (0, 0), False),
                                        ((), (0, 0, 0), (0, 0, 0), False)]),
    ([(3, (0, 1))], [(5, (1, 0, 1))], [FIRST, ((), (1,), (1,), False)]),
    (BITS, [(5, (0, 0)), (6, (1,))], [
        FIRST, ((), (0,), (0,), False), ((), (0,), (1,), True), ((0,), (0,), (1,), True), ((0,), (1,), (0,), True),
        ((1,), (0,), (1,), True), ((1,), (1,), (0,), True)]),
    ([(1, (0, 0)), (2, (0, 1, 1))], [(5, (0,)), (6, (1,))], [FIRST]),
    ([(1, (0, 0)), (2, (1,))], [(5, (0,)), (6, (1, 1))], [
        FIRST, ((), (1,), (1,), False), ((0,), (0,), (1,), True)]),
]

# Two tables of which two unlike texts come out alike.
MERGED = [
    (BITS, []),
    (BITS, [(5, (7,))]),
    (BITS, [(5, (0, 0))]),
    ([(1, (0,)), (2, (1, 2))], [(5, (0, 3))]),
    ([(1, (0,)), (2, (1, 2)), (3, (1, 3))], [(5, (0, 1)), (6, (1, 2)), (7, (1, 3))]),
    ([(1, (0, 0, 0, 0)), (2, (1, 1, 1))], []),
]


class Papers(unittest.TestCase):

    def check(self, one, other):
        """The paper of two tables, held against the steps walked with whole rows."""
        told = state_paper(Code(one), Code(other))
        states, merged = states_so(one, other)
        if merged:
            self.assertIsNone(told, (one, other))
        else:
            self.assertEqual(told, states, (one, other))
            self.assertIs(type(told), list)
            for state in told:
                self.assertEqual([type(part) for part in state], [tuple, tuple, tuple, bool])
                self.assertTrue(all(type(byte) is int for part in state[:3] for byte in part))
        return told

    def test_by_hand(self):
        for one, other, told in PAPERS:
            self.assertEqual(state_paper(Code(one), Code(other)), told, (one, other))
            self.assertEqual(state_paper(Code(one[::-1]), Code(other[::-1])), told, (one, other))
            self.assertEqual(self.check(one, other), told)

    def test_none_where_two_texts_come_out_alike(self):
        for one, other in MERGED:
            self.assertIsNone(state_paper(Code(one), Code(other)))
            self.assertIsNone(self.check(one, other))

    def test_codes_by_chance(self):
        seen = {True: 0, False: 0}
        pairs = list(zip(some_small_tables(151, 400, most=8), some_small_tables(152, 400, most=8)))
        pairs += list(zip(some_small_tables(153, 150, alphabet=(0, 1, 2), most=8),
                          some_small_tables(154, 150, alphabet=(0, 1, 2), most=8)))
        for one, other in pairs:
            told = self.check(one, other)
            seen[told is None] += told is None or len(told) > 5
        self.assertGreater(min(seen.values()), 50)

    def test_codes_of_eight_signs(self):
        self.assertEqual(len(self.check(WIDE, WIDE_OTHER)), 1065)
        for turn in range(4):
            words = [(byte, 255, 255, 255 - turn) for byte in range(8)]
            told = self.check(list(enumerate(words)), [(9, (255, 255, 255, 255))] + [(byte, (byte,)) for byte in range(7)])
            self.assertIs(told is None, False)

    def test_somewhat_more_than_eight_signs(self):
        one = [(sign, (sign, sign % 3)) for sign in range(12)]
        self.check(one, [(sign, (sign,)) for sign in range(9)] + [(20, (9, 0))])

    def test_none_just_where_small_texts_come_out_alike(self):
        alike = 0
        for one, other in zip(some_small_tables(155, 200, most=6, longest=3), some_small_tables(156, 200, most=5, longest=3)):
            found = any(len(texts) > 1 for size in range(8) for texts in originals_by_entries(one, other, size).values())
            told = state_paper(Code(one), Code(other))
            if found:
                self.assertIsNone(told, (one, other))
                alike += 1
            elif told is None:
                self.assertTrue(any(len(texts) > 1 for size in range(8, 12)
                                    for texts in originals_by_entries(one, other, size).values()), (one, other))
        self.assertGreater(alike, 30)

    def test_told_lists_may_be_changed(self):
        one, other, states = PAPERS[10]
        told, again = state_paper(Code(one), Code(other)), state_paper(Code(one), Code(other))
        told.clear()
        self.assertEqual((again, state_paper(Code(one), Code(other))), (states, states))


class Shown(unittest.TestCase):

    def check(self, one, other, states, shows):
        """The states in any order and with others show it, where no end is among them; with one left out they do not."""
        chance = random.Random(157)
        codes = (Code(one), Code(other))
        needless = [5, "", None, True, ((),), (), (None, "a", -7, (True, ("", 10 ** 30))), ("0",), False, 0, -1,
                    ((9,), (9,), (9,), True), ((), (), (), True), ((), (), ()), ((), (), (), None), "((), (), (), False)"]
        for turn in range(4):
            some = states + needless[:turn * 6] + states[:turn]
            chance.shuffle(some)
            handed = list(some)
            self.assertIs(shows_apart(codes[0], codes[1], handed), shows, (one, other))
            self.assertEqual(handed, some)
        for place in chance.sample(range(len(states)), min(6, len(states))):
            less = states[:place] + states[place + 1:]
            others = [thing for thing in needless if thing != states[place]]
            self.assertIs(shows_apart(codes[0], codes[1], less), False)
            self.assertIs(shows_apart(codes[0], codes[1], others + less), False)
        self.assertIs(shows_apart(codes[0], codes[1], []), False)
        self.assertIs(shows_apart(codes[0], codes[1], needless), False)

    def test_by_hand(self):
        for one, other, states in PAPERS:
            self.check(one, other, states, True)

    def test_where_an_end_is_reached(self):
        for one, other in MERGED:
            states, merged = states_so(one, other)
            self.assertIs(merged, True)
            self.check(one, other, states, False)

    def test_codes_by_chance(self):
        for one, other in zip(some_small_tables(158, 200, most=8), some_small_tables(159, 200, most=8)):
            states, merged = states_so(one, other)
            self.check(one, other, states, not merged)
        self.check(WIDE, WIDE_OTHER, states_so(WIDE, WIDE_OTHER)[0], True)

    def test_as_python_holds_tuples_equal(self):
        one, other, states = PAPERS[10]
        asked = [(rest, left, right, 1 if unlike else 0) for rest, left, right, unlike in states]
        self.assertIs(shows_apart(Code(one), Code(other), asked), True)
        asked = [tuple(tuple(byte == 1 for byte in part) for part in state[:3]) + state[3:] for state in states]
        self.assertIs(shows_apart(Code(one), Code(other), asked), True)
        self.assertIs(shows_apart(Code(BITS), Code(BITS), [((), (), (), 0)]), True)
        self.assertIs(shows_apart(Code(BITS), Code(BITS), [((), (), (), True)]), False)

    def test_a_paper_of_other_codes(self):
        one, other, states = PAPERS[10]
        self.assertIs(shows_apart(Code(BITS), Code(BITS), states), True)
        self.assertIs(shows_apart(Code(one), Code([(5, (1, 1)), (6, (0,))]), states), False)


if __name__ == "__main__":
    unittest.main()

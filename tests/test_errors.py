"""Point 4 and the interface's first row: the refusals."""

import copy
import pickle
import unittest

from skewread import errors

FIELDS = {
    "NoShown": ["at"],
    "Twice": ["first", "second"],
    "Begins": ["first", "second"],
    "NoSign": ["at"],
    "NoReading": ["at"],
    "NoName": ["name"],
    "Taken": ["name"],
    "NoMark": [],
    "TwoMarks": ["first", "second"],
    "NoWay": ["leg"],
    "NoOriginal": [],
    "TooMany": ["most"],
    "NoLine": [],
}
NUMBERS = [0, 1, -1, 200, 10 ** 9, 10 ** 69, 10 ** 70 - 1, 1 - 10 ** 70, 1234567890123456789 ** 3]
NAMES = ["a", "z", "abcdefgh"]


def handed_to(refusal):
    """Lists of what the refusal may be made with."""
    if len(FIELDS[refusal]) == 0:
        return [()]
    if len(FIELDS[refusal]) == 1:
        return [(thing,) for thing in NUMBERS + NAMES]
    things = NUMBERS + NAMES
    return list(zip(things, things[1:] + things[:1]))


class Errors(unittest.TestCase):

    def test_there_are_thirteen_and_no_others(self):
        found = [name for name, thing in vars(errors).items() if isinstance(thing, type)]
        self.assertEqual(sorted(found), sorted(list(FIELDS) + ["SkewError"]))
        self.assertEqual(len(FIELDS), 13)

    def test_each_stands_straight_under_skew_error(self):
        self.assertEqual(errors.SkewError.__bases__, (ValueError,))
        for refusal in FIELDS:
            self.assertEqual(getattr(errors, refusal).__bases__, (errors.SkewError,), refusal)

    def test_each_is_caught_by_both_and_by_none_of_the_other_twelve(self):
        for refusal in FIELDS:
            for handed in handed_to(refusal):
                made = getattr(errors, refusal)(*handed)
                for above in (errors.SkewError, ValueError, getattr(errors, refusal)):
                    with self.assertRaises(above) as caught:
                        raise made
                    self.assertIs(caught.exception, made)
                for other in FIELDS:
                    self.assertEqual(isinstance(made, getattr(errors, other)), other == refusal)

    def test_fields_are_what_it_was_made_with(self):
        for refusal, fields in FIELDS.items():
            for handed in handed_to(refusal):
                made = getattr(errors, refusal)(*handed)
                self.assertEqual(vars(made), dict(zip(fields, handed)), refusal)
                for field, thing in zip(fields, handed):
                    self.assertIs(getattr(made, field), thing)

    def test_words_may_be_asked_for(self):
        for refusal in FIELDS:
            for handed in handed_to(refusal):
                made = getattr(errors, refusal)(*handed)
                self.assertIsInstance(str(made), str)
                self.assertIsInstance(repr(made), str)

    def test_a_copy_has_the_same_fields(self):
        for refusal in FIELDS:
            for handed in handed_to(refusal):
                made = getattr(errors, refusal)(*handed)
                for other in (copy.copy(made), pickle.loads(pickle.dumps(made))):
                    self.assertEqual(vars(other), vars(made))
                    self.assertIs(type(other), type(made))


if __name__ == "__main__":
    unittest.main()

"""Stage 1, promise 1: the refusals stand alone."""

import unittest

from forkrolls import errors
from tests.things import ANYTHING

OF_A_TEXT = ["NoName", "NoKey", "NoValue", "NoPlace", "NoWrites", "NoState", "NoWeb", "NoLot", "NoOrder", "NoWay",
             "NoDeed", "NoHand", "NoRight", "NoTable", "NoColumn", "NoRow", "Taken", "NoQuestion", "NoAnswer",
             "NoNumber", "NoText", "TooWide"]
KEEPING = ["NoBranch", "Lacking", "Undone", "Settled", "Clashes"]


class Errors(unittest.TestCase):
    def test_there_are_twenty_seven(self):
        self.assertEqual(len(set(OF_A_TEXT + KEEPING)), 27)

    def test_those_of_a_text_stand_right_under_roll_error(self):
        self.assertEqual(errors.RollError.__bases__, (ValueError,))
        for word in OF_A_TEXT:
            self.assertEqual(getattr(errors, word).__bases__, (errors.RollError,), word)

    def test_those_that_keep_a_thing_stand_right_under_lack_error(self):
        self.assertEqual(errors.LackError.__bases__, (LookupError,))
        for word in KEEPING:
            self.assertEqual(getattr(errors, word).__bases__, (errors.LackError,), word)

    def test_none_is_another(self):
        for word in OF_A_TEXT + KEEPING:
            for other in OF_A_TEXT + KEEPING:
                self.assertEqual(issubclass(getattr(errors, word), getattr(errors, other)), word == other)

    def test_the_two_families_have_nothing_in_common(self):
        for word in OF_A_TEXT:
            self.assertFalse(issubclass(getattr(errors, word), (LookupError, errors.LackError)))
        for word in KEEPING:
            self.assertFalse(issubclass(getattr(errors, word), (ValueError, errors.RollError)))

    def test_those_of_a_text_are_made_of_a_text(self):
        for word in OF_A_TEXT:
            with self.assertRaises(getattr(errors, word)) as caught:
                raise getattr(errors, word)("a text")
            self.assertIsInstance(caught.exception, ValueError)

    def test_the_five_keep_what_they_are_made_of(self):
        for word in KEEPING:
            for thing in ANYTHING:
                with self.assertRaises(LookupError) as caught:
                    raise getattr(errors, word)(thing)
                self.assertIs(caught.exception.name, thing)


if __name__ == "__main__":
    unittest.main()

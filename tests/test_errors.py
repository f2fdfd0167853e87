"""The refusals: each straight under TrickError, with the values that are told of them."""

import unittest

from trickproof import errors
from trickproof.errors import BadPlay, NotNow, TooMuch, TrickError

PLAIN = ["NoCard", "NoHand", "NoDeal", "NoShare", "NoTable", "NoCall", "NoPlay", "TooMany",
         "NoRecord", "NoView", "NoSheet", "NoRow", "NotYet"]


def all_refusals():
    made = [getattr(errors, name)("words") for name in PLAIN]
    return made + [NotNow("low"), BadPlay("turn", 3), TooMuch(2)]


class RefusalTest(unittest.TestCase):
    def test_there_are_sixteen_unlike_ones(self):
        self.assertEqual(len({type(made) for made in all_refusals()}), 16)

    def test_trick_error_is_straight_under_value_error(self):
        self.assertEqual(TrickError.__bases__, (ValueError,))

    def test_each_is_straight_under_trick_error(self):
        for made in all_refusals():
            with self.subTest(type(made).__name__):
                self.assertEqual(type(made).__bases__, (TrickError,))
                self.assertIsInstance(made, TrickError)
                self.assertIsInstance(made, ValueError)

    def test_none_is_another_one(self):
        for made in all_refusals():
            for other in all_refusals():
                if type(made) is not type(other):
                    self.assertNotIsInstance(made, type(other))

    def test_each_is_caught_as_itself_when_raised(self):
        for made in all_refusals():
            with self.assertRaises(type(made)) as caught:
                raise made
            self.assertIs(type(caught.exception), type(made))

    def test_values(self):
        self.assertEqual(NotNow("again").rule, "again")
        self.assertEqual(BadPlay("held", 0).rule, "held")
        self.assertEqual(BadPlay("held", 4).trick, 4)
        self.assertEqual(TooMuch(5).count, 5)

    def test_each_object_has_its_own_values(self):
        first = BadPlay("over", 7)
        BadPlay("turn", 1)
        self.assertEqual((first.rule, first.trick), ("over", 7))


if __name__ == "__main__":
    unittest.main()

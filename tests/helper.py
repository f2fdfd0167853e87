"""What several of the tests use."""

import unittest

NO_TEXTS = [0, 1, 31, -1, 10 ** 59, None, True, False, [], ["a1"], ["a", "1"], (), ("a1",), ("a", "1"), {}]


def bits(*cards):
    return sum(2 ** card for card in cards)


class RefusalCase(unittest.TestCase):
    def assert_refused(self, refusal, ask, thing):
        """The very class is asked for, so that no other refusal passes for it."""
        with self.subTest(repr(thing)):
            with self.assertRaises(ValueError) as caught:
                ask(thing)
            self.assertIs(type(caught.exception), refusal)

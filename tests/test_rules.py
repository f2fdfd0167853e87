"""What stands above the duties."""

import unittest

from trickproof.duties import Beat, Cut, Follow, Free
from trickproof.rules import Rule


class RuleTest(unittest.TestCase):
    def test_its_word_is_a_text(self):
        self.assertIs(type(Rule().word()), str)

    def test_it_stands_above_the_duties(self):
        for duty in (Free(), Follow(), Cut(), Beat()):
            self.assertIsInstance(duty, Rule)

    def test_its_word_is_no_duty_s(self):
        self.assertNotIn(Rule().word(), ("free", "follow", "cut", "beat"))


if __name__ == "__main__":
    unittest.main()

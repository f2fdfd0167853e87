"""Calls read and written, NoCall, and which bid is above which [11]."""

import itertools
import unittest

from tests.helper import NO_TEXTS, RefusalCase
from trickproof.calls import above, call_text, read_call
from trickproof.errors import NoCall

WORDS = ["pass", "double", "again"]
BID_TEXTS = [figure + letter for figure in "12345678" for letter in "abcdn"]
BIDS = [(tricks, strain) for tricks in range(1, 9) for strain in (0, 1, 2, 3, None)]


class ReadCallTest(RefusalCase):
    def test_the_examples(self):
        self.assertEqual(read_call("3a"), (3, 0))
        self.assertEqual(read_call("5n"), (5, None))

    def test_words(self):
        for word in WORDS:
            self.assertEqual(read_call(word), word)
            self.assertIs(type(read_call(word)), str)

    def test_each_bid(self):
        self.assertEqual([read_call(text) for text in BID_TEXTS], BIDS)

    def test_kinds_of_a_bid(self):
        for text in BID_TEXTS:
            bid = read_call(text)
            self.assertIs(type(bid), tuple)
            self.assertEqual(len(bid), 2)
            self.assertIs(type(bid[0]), int)
            self.assertTrue(bid[1] is None or type(bid[1]) is int)

    def test_texts_that_are_no_calls(self):
        wrong = ["", " ", "-", "p", "passs", "pas", "Pass", "PASS", " pass", "pass ", "pass\n", "pass pass", "doubled",
                 "Double", "redouble", "again!", "Again", "agai", "none", "no", "passdouble", "double again"]
        wrong += ["0a", "9a", "0n", "9n", "10a", "12n", "-1a", "+1a", "3e", "3m", "3o", "3`", "3z", "33", "aa", "nn"]
        wrong += ["\u00b2a", "\u0663a", "\uff13a", "3\uff41", "3\u00e4", "a\u0663", "a" * 400]
        for text in BID_TEXTS:
            wrong += [text[0], text[1], text[::-1], text.upper(), text + " ", " " + text, text + "\n", text + text,
                      text[0] + " " + text[1], text + "a", "1" + text]
        for text in wrong:
            self.assert_refused(NoCall, read_call, text)

    def test_all_short_texts(self):
        for length in range(4):
            for choice in itertools.product("abcdenNA0123456789 -\n", repeat=length):
                text = "".join(choice)
                if text not in BID_TEXTS:
                    with self.assertRaises(NoCall):
                        read_call(text)

    def test_things_that_are_no_texts(self):
        for thing in NO_TEXTS + [["pass"], ("pass",), (3, 0), (5, None), [3, 0], {"pass": True}]:
            self.assert_refused(NoCall, read_call, thing)


class CallTextTest(unittest.TestCase):
    def test_the_examples(self):
        self.assertEqual(call_text((3, 0)), "3a")
        self.assertEqual(call_text((5, None)), "5n")

    def test_each_call(self):
        self.assertEqual([call_text(bid) for bid in BIDS], BID_TEXTS)
        self.assertEqual([call_text(word) for word in WORDS], WORDS)

    def test_written_and_read_again(self):
        for text in WORDS + BID_TEXTS:
            self.assertEqual(call_text(read_call(text)), text)
        for call in WORDS + BIDS:
            self.assertEqual(read_call(call_text(call)), call)


class AboveTest(unittest.TestCase):
    def test_more_tricks(self):
        for strain, other in itertools.product((0, 1, 2, 3, None), repeat=2):
            self.assertIs(above((4, strain), (3, other)), True)
            self.assertIs(above((3, strain), (4, other)), False)

    def test_as_many_tricks(self):
        for letter, other in itertools.product("abcdn", repeat=2):
            told = above(read_call("2" + letter), read_call("2" + other))
            self.assertIs(told, "abcdn".index(letter) > "abcdn".index(other))

    def test_no_bid_is_above_itself(self):
        for bid in BIDS:
            self.assertIs(above(bid, bid), False)

    def test_all_bids_rise_one_by_one(self):
        for number, bid in enumerate(BIDS):
            for other_number, other in enumerate(BIDS):
                self.assertIs(above(bid, other), number > other_number)


if __name__ == "__main__":
    unittest.main()

"""Cards [4], hands [5] and deals [6] as texts, and that nothing told is shared [2]."""

import itertools
import re
import unittest

from tests.helper import NO_TEXTS, RefusalCase, bits
from trickproof.errors import NoCard, NoDeal, NoHand
from trickproof.packs import card_text, deal_text, hand_text, read_card, read_deal, read_hand

CARD_TEXTS = [letter + figure for letter in "abcd" for figure in "12345678"]
RISING = "1?2?3?4?5?6?7?8?"


def is_hand_text(text):
    """Tells hands' texts in another way than the program does."""
    if text == "-":
        return True
    words = [f"{letter}(?=[1-8]){RISING}" for letter in "abcd"]
    pattern = "".join(f"( {word})?" for word in words)
    return text != "" and re.fullmatch(pattern, " " + text) is not None


class CardTest(RefusalCase):
    def test_each_card_written(self):
        self.assertEqual([card_text(card) for card in range(32)], CARD_TEXTS)

    def test_each_card_read(self):
        self.assertEqual([read_card(text) for text in CARD_TEXTS], list(range(32)))
        for text in CARD_TEXTS:
            self.assertIs(type(read_card(text)), int)

    def test_known_cards(self):
        self.assertEqual(card_text(0), "a1")
        self.assertEqual(card_text(31), "d8")
        self.assertEqual(read_card("b3"), 10)

    def test_texts_that_are_no_cards(self):
        wrong = ["", " ", "-", "--", "a0", "a9", "d0", "d9", "e1", "`1", "n1", "z8", "11", "aa", "18", "ab", "a-"]
        wrong += ["a\u00b2", "a\u0661", "\u00e41", "\uff411", "a\uff11"]
        for text in CARD_TEXTS:
            wrong += [text[0], text[1], text[::-1], text.upper(), text + "1", text + " ", " " + text, text + "\n",
                      text[0] + " " + text[1], text + text, text[0] + text, "a" + text[1] + "2"]
        for text in wrong:
            self.assert_refused(NoCard, read_card, text)

    def test_all_short_texts(self):
        signs = "abcdABCDe0123456789 -/\n"
        for length in range(4):
            for choice in itertools.product(signs, repeat=length):
                text = "".join(choice)
                if text not in CARD_TEXTS:
                    with self.assertRaises(NoCard):
                        read_card(text)

    def test_things_that_are_no_texts(self):
        for thing in NO_TEXTS:
            self.assert_refused(NoCard, read_card, thing)

    def test_a_long_text(self):
        self.assert_refused(NoCard, read_card, "a1" * 200)


class HandTest(RefusalCase):
    KNOWN = [
        (0, "-"),
        (bits(0), "a1"),
        (bits(31), "d8"),
        (bits(0, 2, 4, 17, 22), "a135 c27"),
        (bits(7, 8), "a8 b1"),
        (bits(0, 8, 16, 24), "a1 b1 c1 d1"),
        (bits(*range(8)), "a12345678"),
        (bits(9, 24, 25, 31), "b2 d128"),
        (2 ** 32 - 1, "a12345678 b12345678 c12345678 d12345678"),
        (2 ** 32 - 1 - bits(20), "a12345678 b12345678 c1234678 d12345678"),
        (2 ** 32 - 2, "a2345678 b12345678 c12345678 d12345678"),
    ]

    def test_known_hands_written(self):
        for hand, text in self.KNOWN:
            self.assertEqual(hand_text(hand), text)

    def test_known_hands_read(self):
        for hand, text in self.KNOWN:
            self.assertEqual(read_hand(text), hand)
            self.assertIs(type(read_hand(text)), int)

    def test_written_and_read_again(self):
        hands = [bits(*cards) for count in range(4) for cards in itertools.combinations(range(0, 32, 2), count)]
        hands += [bits(card) for card in range(32)]
        hands += [2 ** 32 - 1 - hand for hand in hands]
        for hand in hands:
            self.assertTrue(is_hand_text(hand_text(hand)))
            self.assertEqual(read_hand(hand_text(hand)), hand)

    def test_texts_not_so_written(self):
        for text in [
            "", " ", "  ", "--", "- ", " -", "- -", "- a1", "a1 -", "-1", "a-", "0",
            "b1 a1", "c27 a135", "d8 c8", "a1 c1 b1",
            "a21", "a153", "a11", "a1 b22", "a1 b32",
            "a1 a2", "a1 a1", "b3 b4", "a1 b2 b3",
            "a", "d", "a b1", "a1 b", "a b c d", "1", "12",
            "a1  b1", " a1", "a1 ", "a135  c27", " a135 c27", "a135 c27 ",
            "A1", "a1 B1", "A135 C27", "a0", "a9", "a1239", "a012", "e1", "a1 e2", "n1",
            "a1b1", "a1,b1", "a1/b1", "a1 / b1", "a1\n", "a1\tb1", "a1\nb1", "\na1", "1a", "a1 2b", "aa1", "a1a",
            "a\u00b9", "a1\u00a0b1", "\uff411", "a123456788", "a1 b1 c1 d1 a2", "a1 b1 c1 d1 e1",
        ]:
            self.assert_refused(NoHand, read_hand, text)

    def test_things_that_are_no_texts(self):
        for thing in NO_TEXTS:
            self.assert_refused(NoHand, read_hand, thing)

    def test_all_short_texts(self):
        good = 0
        for length in range(6):
            for choice in itertools.product("abd128 -", repeat=length):
                text = "".join(choice)
                if is_hand_text(text):
                    good += 1
                    self.assertEqual(hand_text(read_hand(text)), text)
                else:
                    with self.assertRaises(NoHand):
                        read_hand(text)
        # Of no card, of one word (3 * 7), and of two words with at most five signs (3 * 9).
        self.assertEqual(good, 1 + 21 + 27)

    def test_long_texts(self):
        self.assert_refused(NoHand, read_hand, "a" + "1" * 399)
        self.assert_refused(NoHand, read_hand, " " * 400)
        self.assert_refused(NoHand, read_hand, "a1 " * 133)


class DealTest(RefusalCase):
    KNOWN = [
        ([0, 0, 0], "- / - / -"),
        ([0, 0, 0, 0], "- / - / - / -"),
        ([bits(0), bits(1), bits(2)], "a1 / a2 / a3"),
        ([bits(31), bits(16), bits(8), bits(0)], "d8 / c1 / b1 / a1"),
        ([bits(0, 8), bits(1, 2), bits(24, 31)], "a1 b1 / a23 / d18"),
        ([255, 255 * 2 ** 8, 255 * 2 ** 16, 255 * 2 ** 24], "a12345678 / b12345678 / c12345678 / d12345678"),
    ]

    def test_known_deals_written(self):
        for deal, text in self.KNOWN:
            self.assertEqual(deal_text(deal), text)

    def test_known_deals_read(self):
        for deal, text in self.KNOWN:
            self.assertEqual(read_deal(text), deal)
            self.assertIs(type(read_deal(text)), list)

    def test_written_and_read_again(self):
        for seats in (3, 4):
            for size in range(32 // seats + 1):
                for step in (1, 3, 5, 7, 9, 31):
                    order = [card * step % 32 for card in range(32)]
                    deal = [bits(*order[seat * size:seat * size + size]) for seat in range(seats)]
                    self.assertEqual(read_deal(deal_text(deal)), deal)

    def test_other_numbers_of_hands(self):
        for text in ["-", "a1", "- / -", "a1 / a2", "- / - / - / - / -", "a1 / a2 / a3 / a4 / a5", " / ".join("-" * 8)]:
            self.assert_refused(NoDeal, read_deal, text)

    def test_parts_parted_otherwise(self):
        for text in [
            "a1/a2/a3", "a1 /a2 /a3", "a1/ a2/ a3", "a1 / a2/a3", "a1  / a2 / a3", "a1 /  a2 / a3", "a1 // a2 // a3",
            "a1 a2 a3", "a1, a2, a3", "a1 | a2 | a3", "a1\n/ a2 / a3", "a1\t/\ta2\t/\ta3", "a1; a2; a3", "-/-/-",
            "/ a1 / a2 / a3", "a1 / a2 / a3 /", " a1 / a2 / a3", "a1 / a2 / a3 ", "a1 / a2 / a3\n", "- / / - / -",
        ]:
            self.assert_refused(NoDeal, read_deal, text)

    def test_an_empty_part(self):
        for text in ["", " ", " / ", " /  / ", "a1 /  / a3", " / a2 / a3", "a1 / a2 / ", "- / - / - / ", " / - / -",
                     "- / - /  / -", " /  /  / "]:
            self.assert_refused(NoDeal, read_deal, text)

    def test_a_hand_not_written_as_hands_are(self):
        for part in ["a", "a21", "a11", "b1 a1", "A1", "a0", "a9", "e1", "a1 a2", "a1  b1", "--", "x", "0", "a1,"]:
            for text in [f"{part} / c1 / c2", f"c1 / {part} / c2", f"c1 / c2 / {part}", f"c1 / c2 / c3 / {part}",
                         f"- / - / {part}"]:
                self.assert_refused(NoDeal, read_deal, text)

    def test_a_card_in_two_hands(self):
        for text in ["a1 / a1 / a2", "a1 / a2 / a1", "a2 / a1 / a1", "a1 / a2 / a3 / a1", "a1 / a2 / a2 / a3",
                     "a1 / a1 / a1", "a12 / b12 / a2 c1", "a12345678 / b12345678 / a1 c2345678"]:
            self.assert_refused(NoDeal, read_deal, text)

    def test_unlike_numbers_of_cards(self):
        for text in ["a1 / a2 / -", "- / a1 / a2", "a1 / - / a2", "a12 / a3 / a4", "a1 / a23 / a4", "a1 / a2 / a34",
                     "a1 / a2 / a3 / -", "a1 / a2 / a3 / a4 b1", "- / - / - / d8"]:
            self.assert_refused(NoDeal, read_deal, text)

    def test_things_that_are_no_texts(self):
        for thing in NO_TEXTS + [[0, 0, 0], ["-", "-", "-"], ("a1", "a2", "a3")]:
            self.assert_refused(NoDeal, read_deal, thing)

    def test_the_deal_handed_in_is_as_it_was(self):
        deal = [bits(0), bits(9), bits(18)]
        deal_text(deal)
        self.assertEqual(deal, [bits(0), bits(9), bits(18)])

    def test_each_list_is_the_askers_own(self):
        told = read_deal("a1 / a2 / a3")
        told[0] = 0
        told.append(7)
        self.assertEqual(read_deal("a1 / a2 / a3"), [1, 2, 4])


if __name__ == "__main__":
    unittest.main()

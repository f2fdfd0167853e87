"""Hands as whole numbers [5], and that nothing handed in or told is shared [2]."""

import itertools
import unittest

from trickproof.bits import cards_in, hand_of, many, of_suit

ALL = 2 ** 32 - 1


def some_hands():
    """Hands of none, one, two, all but one and all cards, and many between, with their cards."""
    lists = [[], list(range(32))]
    lists += [[card] for card in range(32)]
    lists += [[card for card in range(32) if card != out] for out in range(32)]
    lists += [list(pair) for pair in itertools.combinations(range(32), 2)]
    lists += [[card for card in range(32) if card * card % step < 3] for step in range(3, 30)]
    return [(sum(2 ** card for card in cards), cards) for cards in lists]


class CardsInTest(unittest.TestCase):
    def test_the_cards_rising(self):
        for hand, cards in some_hands():
            self.assertEqual(cards_in(hand), cards)

    def test_they_are_whole_numbers_and_no_truths(self):
        for hand in (1, 2, 3, ALL):
            for card in cards_in(hand):
                self.assertIs(type(card), int)

    def test_known_hands(self):
        self.assertEqual(cards_in(0), [])
        self.assertEqual(cards_in(1), [0])
        self.assertEqual(cards_in(0b10101 + 2 ** 17 + 2 ** 22), [0, 2, 4, 17, 22])
        self.assertEqual(cards_in(2 ** 31), [31])

    def test_each_list_is_the_askers_own(self):
        told = cards_in(6)
        told.append(31)
        told[0] = 7
        self.assertEqual(cards_in(6), [1, 2])
        emptied = cards_in(0)
        emptied.append(5)
        self.assertEqual(cards_in(0), [])


class HandOfTest(unittest.TestCase):
    def test_of_rising_cards(self):
        for hand, cards in some_hands():
            self.assertEqual(hand_of(cards), hand)

    def test_in_any_order(self):
        for cards in itertools.permutations([0, 5, 8, 31]):
            self.assertEqual(hand_of(list(cards)), 1 + 2 ** 5 + 2 ** 8 + 2 ** 31)
        for hand, cards in some_hands():
            self.assertEqual(hand_of(cards[::-1]), hand)

    def test_a_card_that_comes_twice_is_in_it_once(self):
        self.assertEqual(hand_of([3, 3]), 8)
        self.assertEqual(hand_of([31, 0, 31, 0, 0]), 2 ** 31 + 1)
        for hand, cards in some_hands():
            self.assertEqual(hand_of(cards + cards[:8]), hand)

    def test_it_is_a_whole_number(self):
        for cards in ([], [0], [4, 2]):
            self.assertIs(type(hand_of(cards)), int)

    def test_the_list_is_as_it_was(self):
        cards = [9, 2, 9, 30]
        hand_of(cards)
        self.assertEqual(cards, [9, 2, 9, 30])


class ManyTest(unittest.TestCase):
    def test_how_many(self):
        for hand, cards in some_hands():
            self.assertEqual(many(hand), len(cards))
            self.assertIs(type(many(hand)), int)

    def test_the_edges(self):
        self.assertEqual(many(0), 0)
        self.assertEqual(many(2 ** 31), 1)
        self.assertEqual(many(ALL - 1), 31)
        self.assertEqual(many(ALL), 32)


class OfSuitTest(unittest.TestCase):
    def test_each_suit(self):
        for hand, cards in some_hands():
            for suit in range(4):
                wanted = sum(2 ** card for card in cards if card // 8 == suit)
                self.assertEqual(of_suit(hand, suit), wanted)

    def test_the_edges(self):
        for suit in range(4):
            self.assertEqual(of_suit(0, suit), 0)
            self.assertEqual(cards_in(of_suit(ALL, suit)), list(range(8 * suit, 8 * suit + 8)))
        self.assertEqual(of_suit(2 ** 7 + 2 ** 8, 0), 2 ** 7)
        self.assertEqual(of_suit(2 ** 7 + 2 ** 8, 1), 2 ** 8)


if __name__ == "__main__":
    unittest.main()

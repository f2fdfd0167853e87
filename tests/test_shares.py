"""Cards shared out [7], and that nothing handed in or told is shared with the asker [2]."""

import itertools
import unittest

from trickproof.errors import NoShare
from trickproof.shares import number_of, share, ways

ORDERS = [
    [],
    [5],
    [31, 0],
    [3, 1, 2],
    [8, 30, 0, 17],
    [4, 3, 2, 1, 0],
    [9, 31, 2, 24, 16, 7],
]


def sizes_of(seats, cards):
    """All lists of sizes of so many seats that come to so many cards."""
    choices = itertools.product(range(cards + 1), repeat=seats)
    return [list(sizes) for sizes in choices if sum(sizes) == cards]


def all_shares(cards, sizes):
    """The shares in order, found by going through all lists of whom each card goes to."""
    shares = []
    for goes in itertools.product(range(len(sizes)), repeat=len(cards)):
        if [goes.count(seat) for seat in range(len(sizes))] == sizes:
            shares.append([sum(2 ** card for card, to in zip(cards, goes) if to == seat)
                           for seat in range(len(sizes))])
    return shares


class WaysTest(unittest.TestCase):
    def test_one_seat(self):
        for size in range(33):
            self.assertEqual(ways([size]), 1)

    def test_nothing_to_share(self):
        for seats in range(1, 6):
            self.assertEqual(ways([0] * seats), 1)

    def test_known_ones(self):
        self.assertEqual(ways([1, 1]), 2)
        self.assertEqual(ways([2, 2]), 6)
        self.assertEqual(ways([1, 2, 3]), 60)
        self.assertEqual(ways([0, 3, 0, 3]), 20)
        self.assertEqual(ways([1, 1, 1, 1, 1]), 120)
        self.assertEqual(ways([10, 10, 10, 2]), 2753294408504640)
        self.assertEqual(ways([8, 8, 8, 8]), 99561092450391000)
        self.assertEqual(ways([32, 0, 0]), 1)
        self.assertEqual(ways([31, 1]), 32)

    def test_it_is_a_whole_number(self):
        for sizes in ([0], [1], [1, 1], [2, 0, 3]):
            self.assertIs(type(ways(sizes)), int)

    def test_as_many_as_there_are_shares(self):
        for cards in ORDERS[:6]:
            for seats in range(1, 5):
                for sizes in sizes_of(seats, len(cards)):
                    self.assertEqual(ways(sizes), len(all_shares(cards, sizes)))


class ShareTest(unittest.TestCase):
    def assert_all_told(self, cards, sizes):
        wanted = all_shares(cards, sizes)
        self.assertEqual(ways(sizes), len(wanted))
        for number, hands in enumerate(wanted):
            self.assertEqual(share(cards, sizes, number), hands)
            self.assertEqual(number_of(cards, hands), number)
        for number in (-1, -2, len(wanted), len(wanted) + 1, 10 ** 59, -10 ** 59):
            with self.assertRaises(NoShare):
                share(cards, sizes, number)

    def test_one_to_four_seats(self):
        for cards in ORDERS[:6]:
            for seats in range(1, 5):
                for sizes in sizes_of(seats, len(cards)):
                    self.assert_all_told(cards, sizes)

    def test_five_seats(self):
        for cards in ORDERS[:5]:
            for sizes in sizes_of(5, len(cards)):
                self.assert_all_told(cards, sizes)
        self.assert_all_told(ORDERS[5], [1, 1, 1, 1, 1])
        self.assert_all_told(ORDERS[6], [0, 2, 1, 0, 3])

    def test_six_cards(self):
        for sizes in ([2, 2, 2], [3, 0, 3], [1, 4, 1], [6], [0, 6], [1, 2, 1, 2]):
            self.assert_all_told(ORDERS[6], sizes)

    def test_the_order_is_that_of_whom_each_card_goes_to(self):
        told = [share([9, 4, 20], [1, 2], number) for number in range(3)]
        self.assertEqual(told, [[2 ** 9, 2 ** 4 + 2 ** 20], [2 ** 4, 2 ** 9 + 2 ** 20], [2 ** 20, 2 ** 9 + 2 ** 4]])

    def test_all_thirty_two_cards(self):
        cards = [card * 5 % 32 for card in range(32)]
        sizes = [8, 8, 8, 8]
        most = ways(sizes)
        first = [sum(2 ** card for card in cards[at:at + 8]) for at in (0, 8, 16, 24)]
        self.assertEqual(share(cards, sizes, 0), first)
        self.assertEqual(share(cards, sizes, most - 1), first[::-1])
        for number in (0, 1, 2, 12345678901, most // 3, most // 2, most - 2, most - 1):
            hands = share(cards, sizes, number)
            self.assertEqual([bin(hand).count("1") for hand in hands], sizes)
            self.assertEqual(sum(hands), 2 ** 32 - 1)
            self.assertEqual(number_of(cards, hands), number)
        for number in (-1, most, most + 1):
            with self.assertRaises(NoShare):
                share(cards, sizes, number)

    def test_kinds(self):
        hands = share([1, 0], [1, 1], 1)
        self.assertIs(type(hands), list)
        for hand in hands + share([], [0, 0], 0):
            self.assertIs(type(hand), int)
        self.assertIs(type(number_of([1, 0], hands)), int)

    def test_sizes_that_do_not_come_to_as_many(self):
        for cards, sizes in [([], [1]), ([5], [0]), ([5], [2]), ([5], [1, 1]), ([5], [0, 0]), ([1, 2, 3], [1, 1]),
                             ([1, 2, 3], [2, 2]), ([1, 2], [1, 0, 0, 0, 0]), ([1, 2], [3, 0, 0, 0, 0]),
                             ([1, 2], [10 ** 59, 10 ** 59])]:
            for number in (-1, 0, 1, 5):
                with self.subTest((cards, sizes, number)):
                    with self.assertRaises(NoShare) as caught:
                        share(cards, sizes, number)
                    self.assertIs(type(caught.exception), NoShare)


class OwnListsTest(unittest.TestCase):
    def test_what_is_handed_in_is_as_it_was(self):
        cards = [7, 3, 12]
        sizes = [1, 0, 2]
        hands = share(cards, sizes, 1)
        ways(sizes)
        copied = list(hands)
        number_of(cards, hands)
        self.assertEqual((cards, sizes, hands), ([7, 3, 12], [1, 0, 2], copied))
        with self.assertRaises(NoShare):
            share(cards, sizes, 3)
        self.assertEqual((cards, sizes), ([7, 3, 12], [1, 0, 2]))

    def test_each_list_is_the_askers_own(self):
        cards = [7, 3]
        sizes = [1, 1]
        told = share(cards, sizes, 0)
        told[0] = 0
        told.append(1)
        self.assertEqual(share(cards, sizes, 0), [2 ** 7, 2 ** 3])
        self.assertEqual(sizes, [1, 1])

    def test_what_is_done_to_lists_afterwards_changes_nothing(self):
        cards = [7, 3]
        sizes = [1, 1]
        told = share(cards, sizes, 1)
        cards[0] = 30
        sizes[0] = 9
        self.assertEqual(told, [2 ** 3, 2 ** 7])


if __name__ == "__main__":
    unittest.main()

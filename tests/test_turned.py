"""Suits, seats and sides turned, and that a count stays the same then [19]."""

import copy
import itertools
import unittest

from tests.helper import (bits, cards_of, count_by_words, game_of, place_of, places_of_all_kinds, read_cards, seeded,
                          some_game, some_place)
from trickproof.alike import alike
from trickproof.counts import count, told
from trickproof.places import is_place, left, turn_at
from trickproof.tables import Game
from trickproof.turned import seats_turned, side_turned, suits_turned

ALL_TURNS = [list(turn) for turn in itertools.permutations(range(4))]


def card_by_words(card, turn):
    suit, height = divmod(card, 8)
    return 8 * turn[suit] + height


def suits_by_words(place, turn):
    hands, lead, trick = place
    hands = tuple(bits(*(card_by_words(card, turn) for card in cards_of(hand))) for hand in hands)
    return (hands, lead, tuple(card_by_words(card, turn) for card in trick))


def seats_by_words(place, steps):
    """What was of a seat put, step by step, to the seat behind it."""
    hands, lead, trick = place
    for step in range(steps):
        hands = hands[-1:] + hands[:-1]
        lead = lead + 1 if lead + 1 < len(hands) else 0
    return (hands, lead, trick)


def side_by_words(side, steps, seats):
    return sum(2 ** ((seat + steps) % seats) for seat in cards_of(side))


def trump_turned(game, turn):
    return Game(game.table, None if game.trump is None else turn[game.trump])


def fitting_turns(game):
    """The turns by which all cards of the pack are of the pack again."""
    return [turn for turn in ALL_TURNS if max(turn[:game.table.suits]) < game.table.suits]


def inverse(turn):
    return [turn.index(suit) for suit in range(4)]


class SuitsTest(unittest.TestCase):
    place = place_of("a1 b2 / c3 / d4 d8", 2, "b5")

    def test_each_suit_becomes_what_is_told_for_it(self):
        self.assertEqual(suits_turned(self.place, [1, 2, 3, 0]), place_of("b1 c2 / d3 / a4 a8", 2, "c5"))
        self.assertEqual(suits_turned(self.place, [3, 0, 1, 2]), place_of("d1 a2 / b3 / c4 c8", 2, "a5"))
        self.assertEqual(suits_turned(self.place, [1, 0, 2, 3]), place_of("b1 a2 / c3 / d4 d8", 2, "a5"))
        self.assertEqual(suits_turned(self.place, [0, 1, 2, 3]), self.place)

    def test_the_tricks_order_stays(self):
        place = place_of("a1 / b1 / c1 d1", 0, "d8 a2")
        self.assertEqual(suits_turned(place, [2, 3, 0, 1]), place_of("c1 / d1 / a1 b1", 0, "b8 c2"))

    def test_empty_hands(self):
        for turn in ALL_TURNS:
            self.assertEqual(suits_turned(((0, 0, 0, 0), 3, ()), turn), ((0, 0, 0, 0), 3, ()))

    def test_by_words_and_back(self):
        chance = seeded(19)
        for game, place in places_of_all_kinds(chance, 4):
            turn = chance.choice(ALL_TURNS)
            turned = suits_turned(place, turn)
            self.assertEqual(turned, suits_by_words(place, turn))
            self.assertEqual(suits_turned(turned, inverse(turn)), place)

    def test_all_cards(self):
        everything = ((255, 255 << 8, 255 << 16, 255 << 24), 1, ())
        for turn in ALL_TURNS:
            self.assertEqual(suits_turned(everything, turn), (tuple(255 << 8 * suit for suit in turn), 1, ()))


class SeatsTest(unittest.TestCase):
    def test_the_cards_and_the_lead_go_with_the_seats(self):
        self.assertEqual(seats_turned(((1, 2, 4), 0, ()), 1), ((4, 1, 2), 1, ()))
        self.assertEqual(seats_turned(((1, 2, 4), 2, ()), 1), ((4, 1, 2), 0, ()))
        self.assertEqual(seats_turned(((1, 2, 4), 2, ()), 2), ((2, 4, 1), 1, ()))
        self.assertEqual(seats_turned(((1, 2, 4, 8), 3, ()), 1), ((8, 1, 2, 4), 0, ()))
        self.assertEqual(seats_turned(((1, 2, 4, 8), 1, ()), 3), ((2, 4, 8, 1), 0, ()))

    def test_the_trick_stays(self):
        place = place_of("a1 / b1 / c1 d1", 0, "d8 a2")
        self.assertEqual(seats_turned(place, 1), place_of("c1 d1 / a1 / b1", 1, "d8 a2"))

    def test_no_steps(self):
        for place in [place_of("a1 / b1 / c1 d1", 0, "d8 a2"), ((1, 2, 4, 8), 3, ())]:
            self.assertEqual(seats_turned(place, 0), place)

    def test_by_words_and_back(self):
        chance = seeded(91)
        for game, place in places_of_all_kinds(chance, 4):
            seats = game.table.seats
            for steps in range(seats):
                turned = seats_turned(place, steps)
                self.assertEqual(turned, seats_by_words(place, steps))
                self.assertEqual(seats_turned(turned, (seats - steps) % seats), place)
                self.assertTrue(is_place(game, turned))
                if left(place) > 0:
                    self.assertEqual(turn_at(game, turned), (turn_at(game, place) + steps) % seats)


class SideTest(unittest.TestCase):
    def test_sides(self):
        self.assertEqual([side_turned(1, steps, 3) for steps in range(3)], [1, 2, 4])
        self.assertEqual([side_turned(4, steps, 3) for steps in range(3)], [4, 1, 2])
        self.assertEqual([side_turned(5, steps, 4) for steps in range(4)], [5, 10, 5, 10])
        self.assertEqual([side_turned(9, steps, 4) for steps in range(4)], [9, 3, 6, 12])
        self.assertEqual([side_turned(3, steps, 3) for steps in range(3)], [3, 6, 5])

    def test_none_and_all(self):
        for seats in (3, 4):
            for steps in range(seats):
                self.assertEqual(side_turned(0, steps, seats), 0)
                self.assertEqual(side_turned(2 ** seats - 1, steps, seats), 2 ** seats - 1)

    def test_by_words(self):
        for seats in (3, 4):
            for steps in range(seats):
                turned = [side_turned(side, steps, seats) for side in range(2 ** seats)]
                self.assertEqual(turned, [side_by_words(side, steps, seats) for side in range(2 ** seats)])
                self.assertEqual(sorted(turned), list(range(2 ** seats)))


class SameCountTest(unittest.TestCase):
    def assert_same(self, game, place, turn, steps):
        """The counts of all sides, and the pairs, are those of the turned place."""
        seats = game.table.seats
        turned_game = trump_turned(game, turn)
        turned = seats_turned(suits_turned(place, turn), steps)
        self.assertTrue(is_place(turned_game, turned), (place, turn))
        for side in range(2 ** seats):
            other = side_turned(side, steps, seats)
            self.assertEqual(count(game, place, side), count(turned_game, turned, other), (place, turn, steps, side))
            pairs = [(card_by_words(card, turn), number) for card, number in told(game, place, side)]
            self.assertEqual(sorted(pairs), told(turned_game, turned, other))

    def test_suits_turned(self):
        chance = seeded(190)
        for number in range(60):
            game = some_game(chance)
            place = some_place(chance, game, 2, chance.randint(0, 7))
            for turn in fitting_turns(game):
                self.assert_same(game, place, turn, 0)

    def test_seats_turned(self):
        chance = seeded(191)
        for game, place in places_of_all_kinds(chance, 2):
            for steps in range(game.table.seats):
                self.assert_same(game, place, [0, 1, 2, 3], steps)

    def test_both_turned_at_places_of_three_tricks(self):
        chance = seeded(192)
        for number in range(25):
            game = some_game(chance)
            place = some_place(chance, game, 3, chance.randint(0, 5))
            self.assert_same(game, place, chance.choice(fitting_turns(game)), chance.randrange(game.table.seats))

    def test_a_suit_that_the_pack_has_not(self):
        """Only the cards that are there must be of the pack when turned; the trump may be any suit."""
        place = place_of("a1 a4 / a2 a5 / a3 a6")
        for trump in (None, 0, 1, 2, 3):
            game = game_of("follow", trump, 3, "2x8", "21345678", "87654321")
            for turn in ALL_TURNS:
                if turn[0] < 2:
                    self.assert_same(game, place, turn, 1)

    def test_the_trump_must_turn_too(self):
        """Else nothing would be shown: the count is another one where the trump stays."""
        game, place = game_of("follow", 1, 3), place_of("a8 / b1 / a2")
        turned = suits_turned(place, [1, 0, 2, 3])
        self.assertEqual(count(game, place, 1), 0)
        self.assertEqual(count(trump_turned(game, [1, 0, 2, 3]), turned, 1), 0)
        self.assertEqual(count(game, turned, 1), 1)

    def test_the_side_must_turn_too(self):
        game, place = game_of("follow", None, 3), place_of("a8 / b1 / a2")
        turned = seats_turned(place, 1)
        self.assertEqual((count(game, place, 1), count(game, turned, 2), count(game, turned, 1)), (1, 1, 0))

    def test_the_count_by_words(self):
        chance = seeded(193)
        for game, place in places_of_all_kinds(chance, 2):
            turned = seats_turned(place, 1)
            self.assertEqual(count_by_words(game, turned, side_turned(1, 1, game.table.seats)), count(game, place, 1))

    def test_alike_groups_turn_too(self):
        chance = seeded(194)
        for number in range(60):
            game = some_game(chance)
            place = some_place(chance, game, 4, chance.randint(0, 9))
            turn = chance.choice(fitting_turns(game))
            groups = [[card_by_words(card, turn) for card in group] for group in alike(game, place)]
            self.assertEqual(sorted(groups), alike(trump_turned(game, turn), suits_turned(place, turn)))


class HandedInTest(unittest.TestCase):
    def test_what_is_handed_in_stays_as_it_was(self):
        place, turn = place_of("a1 b2 / c3 / d4 d8", 2, "b5"), [1, 2, 3, 0]
        kept = copy.deepcopy((place, turn))
        suits_turned(place, turn)
        seats_turned(place, 2)
        self.assertEqual((place, turn), kept)

    def test_what_is_told_stays_as_it_was(self):
        turn = [1, 2, 3, 0]
        turned = suits_turned(place_of("a1 b2 / c3 / d4 d8", 2, "b5"), turn)
        turn.reverse()
        self.assertEqual(turned, place_of("b1 c2 / d3 / a4 a8", 2, "c5"))

    def test_kinds(self):
        place = place_of("a1 b2 / c3 / d4 d8", 2, "b5")
        for turned in (suits_turned(place, [1, 2, 3, 0]), seats_turned(place, 1), suits_turned(place, [0, 1, 2, 3])):
            self.assertEqual([type(part) for part in turned], [tuple, int, tuple])
            self.assertEqual({type(number) for number in turned[0] + turned[2]}, {int})
        self.assertIs(type(turned), tuple)
        self.assertIs(type(side_turned(5, 1, 4)), int)
        self.assertEqual(suits_turned(place, [1, 2, 3, 0])[2], tuple(read_cards("c5")))


if __name__ == "__main__":
    unittest.main()

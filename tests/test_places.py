"""Places: what is one, turns, moves, what is left [14], and the place behind a card [15]."""

import copy
import unittest

from tests.helper import (DUTY_WORDS, behind_by_words, cards_of, game_of, is_place_by_words, moves_by_words, place_of,
                          read_cards, seeded, some_game, some_place)
from trickproof.packs import read_deal
from trickproof.places import behind, is_place, left, moves, turn_at


class IsPlaceTest(unittest.TestCase):
    game = game_of(seats=3, pack="2x4")

    def assert_place(self, expected, place, game=None):
        self.assertIs(is_place(game or self.game, place), expected, place)
        self.assertIs(is_place_by_words(game or self.game, place), expected, place)

    def test_places(self):
        for lead in range(3):
            self.assert_place(True, ((0, 0, 0), lead, ()))
            self.assert_place(True, place_of("a1 b1 / a2 a3 / b3 b4", lead))
        self.assert_place(True, place_of("a1 / a2 a3 / b3 b4", 0, "b1"))
        self.assert_place(True, place_of("a1 b1 / a2 / b3", 1, "a3 b4"))
        self.assert_place(True, place_of("a1 / a2 a3 / b3", 2, "a4 b1"))
        self.assert_place(True, ((0, 0, 1), 0, (1, 2)))

    def test_a_place_of_four_seats(self):
        game = game_of()
        self.assert_place(True, place_of("a1 / b1 / c1 / d1"), game)
        self.assert_place(True, (tuple(read_deal("a1 b8 / a2 b7 / c12 / d78")), 3, ()), game)
        self.assert_place(True, ((0, 0, 1, 0), 3, (31, 30, 29)), game)

    def test_another_number_of_hands(self):
        self.assert_place(False, ((), 0, ()))
        self.assert_place(False, place_of("a1 / a2"))
        self.assert_place(False, place_of("a1 / a2 / a3 / a4"))
        self.assert_place(False, ((0, 0, 0, 0), 0, ()))
        self.assert_place(False, place_of("a1 / a2 / a3"), game_of())

    def test_a_trick_that_is_too_long(self):
        self.assert_place(False, ((0, 0, 0), 0, (0, 1, 2)))
        self.assert_place(False, place_of("a1 / a2 / a3", 0, "b1 b2 b3"))
        self.assert_place(False, place_of("a1 / a2 / a3", 0, "b1 b2 b3 b4"))
        self.assert_place(False, place_of("- / a2 / a3", 0, "b1 b2 b3 b4"))
        self.assert_place(False, ((0, 0, 0), 0, tuple(range(8)) * 5))

    def test_a_card_that_is_not_of_the_pack(self):
        for card in (4, 7, 12, 16, 24, 31, 32, 100, 199):
            self.assert_place(False, ((1, 2, 2 ** card), 0, ()))
        for card in (4, 7, 12, 16, 31, 32, 1000):
            self.assert_place(False, ((0, 1, 2), 0, (card,)))
        self.assert_place(False, ((1, 2, 10 ** 60 - 1), 0, ()))

    def test_a_card_that_is_there_twice(self):
        self.assert_place(False, ((1, 1, 2), 0, ()))
        self.assert_place(False, ((3, 12, 2 + 256), 0, ()))
        self.assert_place(False, ((1, 2, 4), 0, (0,)))
        self.assert_place(False, ((0, 1, 2), 0, (0,)))
        self.assert_place(False, ((0, 0, 1), 0, (2, 2)))
        self.assert_place(False, ((1, 6, 24), 0, (0,)))

    def test_a_lead_that_is_no_seat(self):
        for lead in (-1, -3, 3, 4, 7, 10 ** 59, -10 ** 59):
            self.assert_place(False, ((1, 2, 4), lead, ()))
        self.assert_place(False, ((1, 2, 4, 8), 4, ()), game_of())
        self.assert_place(True, ((1, 2, 4, 8), 3, ()), game_of())

    def test_unlike_numbers_of_cards(self):
        self.assert_place(False, ((1, 2, 0), 0, ()))
        self.assert_place(False, ((1, 2, 4 + 8), 0, ()))
        self.assert_place(False, ((1, 2, 4), 0, (8,)))
        self.assert_place(False, ((0, 0, 0), 0, (8,)))
        self.assert_place(False, ((1, 0, 2), 0, (8,)))
        self.assert_place(False, ((0, 1, 2), 1, (8,)))
        self.assert_place(True, ((0, 1, 2), 0, (8,)))
        self.assert_place(False, ((0, 1, 0), 0, (8, 9)))
        self.assert_place(True, ((0, 0, 1), 0, (8, 9)))

    def test_places_and_what_is_near_them(self):
        chance = seeded(14)
        seen = {True: 0, False: 0}
        for number in range(1500):
            game = some_game(chance)
            hands, lead, trick = some_place(chance, game, chance.randint(0, 4), chance.randint(0, 16))
            change = chance.randrange(8)
            if change == 1:
                hands = hands[:-1] if chance.randrange(2) else hands + (hands[0],)
            if change == 2:
                lead = chance.randint(-2, 5)
            if change == 3:
                trick = trick + (chance.randrange(40),)
            if change == 4:
                trick = trick[:-1]
            if change == 5:
                seat = chance.randrange(len(hands))
                hands = hands[:seat] + (hands[seat] ^ 2 ** chance.randrange(33),) + hands[seat + 1:]
            if change == 6:
                hands = hands[1:] + hands[:1]
            place = (hands, lead, trick)
            expected = is_place_by_words(game, place)
            seen[expected] += 1
            self.assertIs(is_place(game, place), expected, place)
        self.assertGreater(min(seen.values()), 300)


class TurnTest(unittest.TestCase):
    def test_the_next_seat_round_from_the_lead(self):
        game = game_of()
        for lead in range(4):
            hands = [2 ** 8 + 1, 2 ** 9 + 2, 2 ** 10 + 4, 2 ** 11 + 8]
            trick = ()
            for number in range(4):
                seat = (lead + number) % 4
                self.assertEqual(turn_at(game, (tuple(hands), lead, trick)), seat)
                hands[seat] = 2 ** (8 + seat)
                trick = trick + (seat,)

    def test_the_last_card(self):
        self.assertEqual(turn_at(game_of(seats=3), ((0, 0, 1), 0, (2, 3))), 2)
        self.assertEqual(turn_at(game_of(seats=3), ((0, 1, 0), 2, (2, 3))), 1)

    def test_nobody(self):
        for lead in range(3):
            place = ((0, 0, 0), lead, ())
            self.assertIsNone(turn_at(game_of(seats=3), place))
            self.assertEqual(moves(game_of(seats=3), place), [])
            self.assertEqual(left(place), 0)


class MovesTest(unittest.TestCase):
    def test_by_each_duty(self):
        place = place_of("c1 d1 d2 / a1 a4 / a5 b1 / b2 b3 c2", 1, "a3 a2")
        self.assertTrue(is_place(game_of(), place))
        for duty, text in [("free", "b2 b3 c2"), ("follow", "b2 b3 c2"), ("cut", "b2 b3"), ("beat", "b2 b3")]:
            self.assertEqual(moves(game_of(duty, 1), place), read_cards(text))
        place = place_of("a1 a4 c1 / a2 a6 d1 / b7 b8 d2 / c7 c8", 3, "a3")
        self.assertTrue(is_place(game_of(), place))
        for duty, text in [("free", "a1 a4 c1"), ("follow", "a1 a4"), ("cut", "a1 a4"), ("beat", "a4")]:
            self.assertEqual(moves(game_of(duty, 1), place), read_cards(text))

    def test_to_an_empty_trick(self):
        for duty in DUTY_WORDS:
            place = place_of("a1 a2 / b2 b3 / a8 c3 / d1 d2", 2)
            self.assertEqual(moves(game_of(duty, 2), place), read_cards("a8 c3"))

    def test_many_places(self):
        chance = seeded(10)
        for number in range(600):
            game = some_game(chance)
            place = some_place(chance, game, chance.randint(0, 6), chance.randint(0, 24))
            told = moves(game, place)
            self.assertEqual(told, moves_by_words(game, place))
            self.assertEqual(told, sorted(told))
            self.assertEqual(told == [], turn_at(game, place) is None)

    def test_the_list_is_the_askers_own(self):
        game, place = game_of(), place_of("a1 a2 / a3 a4 / a5 a6 / a7 a8")
        told = moves(game, place)
        told.clear()
        told.append(31)
        self.assertEqual(moves(game, place), [0, 1])


class LeftTest(unittest.TestCase):
    def test_the_greatest_number_of_cards(self):
        self.assertEqual(left(place_of("a1 a2 / a3 a4 / a5 a6")), 2)
        self.assertEqual(left(place_of("a1 / a3 a4 / a5 a6", 0, "a2")), 2)
        self.assertEqual(left(place_of("a1 / a3 a4 / a5", 2, "a2 a6")), 2)
        self.assertEqual(left(((0, 0, 1), 0, (8, 9))), 1)
        self.assertEqual(left(((0, 0, 0, 0), 3, ())), 0)
        self.assertEqual(left(((255, 255 << 8, 255 << 16, 255 << 24), 0, ())), 8)

    def test_it_is_the_number_of_tricks_that_get_full(self):
        chance = seeded(41)
        for number in range(200):
            game = some_game(chance)
            place = some_place(chance, game, 5, chance.randint(0, 20))
            number_left, full = left(place), 0
            while any(place[0]):
                place, taker = behind(game, place, chance.choice(moves(game, place)))
                full += taker is not None
            self.assertEqual(full, number_left)


class BehindTest(unittest.TestCase):
    def test_the_card_goes_into_the_trick(self):
        game = game_of(seats=3)
        place = place_of("a1 b1 / a2 a3 / b3 b4", 1)
        self.assertEqual(behind(game, place, 2), (place_of("a1 b1 / a2 / b3 b4", 1, "a3"), None))
        place = place_of("a1 b1 / a2 / b3 b4", 1, "a3")
        self.assertEqual(behind(game, place, 11), (place_of("a1 b1 / a2 / b3", 1, "a3 b4"), None))

    def test_the_trick_is_full(self):
        place = place_of("a1 b1 / a2 / b3", 1, "a3 b4")
        self.assertEqual(behind(game_of(seats=3), place, 0), (place_of("b1 / a2 / b3", 1), 1))
        self.assertEqual(behind(game_of(seats=3, trump=1), place, 8), (place_of("a1 / a2 / b3", 2), 2))
        place = place_of("a4 c1 / a2 / b3", 1, "a3 b4")
        self.assertEqual(behind(game_of(seats=3), place, 3), (place_of("c1 / a2 / b3", 0), 0))
        self.assertEqual(behind(game_of(seats=3, plain="87654321"), place, 3), (place_of("c1 / a2 / b3", 1), 1))

    def test_the_last_card(self):
        self.assertEqual(behind(game_of(seats=3), ((0, 0, 4), 0, (0, 1)), 2), (((0, 0, 0), 2, ()), 2))

    def test_also_a_card_that_the_duty_forbids(self):
        place = place_of("a1 / a2 b8 / a3 b1", 0, "a8")
        for duty in DUTY_WORDS:
            game = game_of(duty, 1, 3)
            self.assertEqual(behind(game, place, 15), (place_of("a1 / a2 / a3 b1", 0, "a8 b8"), None))
        place = place_of("a1 / a2 / a3 b1", 0, "a8 a7")
        self.assertEqual(behind(game_of("follow", 1, 3), place, 8), (place_of("a1 / a2 / a3", 2), 2))

    def test_kinds(self):
        place, taker = behind(game_of(seats=3), ((0, 0, 4), 0, (0, 1)), 2)
        self.assertIs(type(place), tuple)
        self.assertEqual([type(part) for part in place], [tuple, int, tuple])
        self.assertIs(type(taker), int)

    def test_many_places(self):
        chance = seeded(15)
        for number in range(400):
            game = some_game(chance)
            place = some_place(chance, game, 4, chance.randint(0, 15))
            seat = turn_at(game, place)
            for card in cards_of(place[0][seat]) if seat is not None else []:
                told = behind(game, place, card)
                self.assertEqual(told, behind_by_words(game, place, card))
                self.assertIs(is_place(game, told[0]), True)

    def test_what_is_handed_in_stays_as_it_was(self):
        game, place = game_of(seats=3), place_of("a1 b1 / a2 / b3", 1, "a3 b4")
        before = copy.deepcopy(place)
        table = (game.table.text(), game.trump)
        for ask in (is_place, turn_at, moves):
            ask(game, place)
        behind(game, place, 0)
        self.assertEqual(place, before)
        self.assertEqual((game.table.text(), game.trump), table)


if __name__ == "__main__":
    unittest.main()

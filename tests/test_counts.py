"""Counts of places, by all play with open cards, and where there are too many cards [17]."""

import copy
import unittest

from tests.helper import (DUTY_WORDS, RefusalCase, count_by_words, game_of, place_of, seeded, some_game, some_place,
                          told_by_words)
from trickproof.counts import best, count, told
from trickproof.errors import TooMany
from trickproof.places import is_place, left

FINESSE = place_of("a1 b1 / a3 b2 / a2 a4 / b3 b4")


def asked(game, place, side):
    return (told(game, place, side), count(game, place, side), best(game, place, side))


def wanted(game, place, side):
    pairs = told_by_words(game, place, side)
    number = count_by_words(game, place, side)
    return (pairs, number, [card for card, made in pairs if made == number])


class KnownTest(unittest.TestCase):
    def test_led_to_the_tenace(self):
        self.assertEqual(asked(game_of(), FINESSE, 5), ([(0, 2), (8, 0)], 2, [0]))

    def test_the_others_choose_the_least(self):
        self.assertEqual(asked(game_of(), FINESSE, 10), ([(0, 0), (8, 2)], 0, [0]))

    def test_no_seats_and_all_seats(self):
        self.assertEqual(asked(game_of(), FINESSE, 0), ([(0, 0), (8, 0)], 0, [0, 8]))
        self.assertEqual(asked(game_of(), FINESSE, 15), ([(0, 2), (8, 2)], 2, [0, 8]))

    def test_a_trump_takes(self):
        place = place_of("a8 c1 / a1 b1 / a2 c2")
        self.assertEqual(asked(game_of(seats=3), place, 1), ([(7, 1), (16, 1)], 1, [7, 16]))
        self.assertEqual(asked(game_of(seats=3, trump=1), place, 1), ([(7, 1), (16, 0)], 1, [7]))
        self.assertEqual(count(game_of(seats=3), place_of("a8 / b1 / a2"), 1), 1)
        self.assertEqual(count(game_of(seats=3, trump=1), place_of("a8 / b1 / a2"), 1), 0)
        self.assertEqual(count(game_of(seats=3, trump=1), place_of("a8 / b1 / a2"), 2), 1)

    def test_the_orders_count(self):
        place = place_of("a1 / a2 / a3")
        for plain, numbers in [("12345678", [0, 0, 1]), ("32145678", [1, 0, 0]), ("13245678", [0, 1, 0])]:
            game = game_of(seats=3, plain=plain)
            self.assertEqual([count(game, place, side) for side in (1, 2, 4)], numbers)
        game = game_of(seats=3, trump=0, trumps="13245678")
        self.assertEqual([count(game, place, side) for side in (1, 2, 4)], [0, 1, 0])

    def test_a_trick_that_has_begun(self):
        game, place = game_of(seats=3), place_of("a1 / a5 / a2 a6", 0, "a4 a3")
        self.assertEqual(asked(game, place, 4), ([(1, 1), (5, 1)], 1, [1, 5]))
        self.assertEqual(asked(game, place, 1), ([(1, 1), (5, 0)], 0, [5]))
        self.assertEqual(asked(game, place, 2), ([(1, 0), (5, 1)], 0, [1]))

    def test_the_last_card(self):
        game, place = game_of(seats=3), ((0, 0, 1), 0, (1, 2))
        self.assertEqual(asked(game, place, 2), ([(0, 1)], 1, [0]))
        self.assertEqual(asked(game, place, 5), ([(0, 0)], 0, [0]))

    def test_nothing_is_left(self):
        for seats in (3, 4):
            for side in range(2 ** seats):
                self.assertEqual(asked(game_of(seats=seats), ((0,) * seats, 1, ()), side), ([], 0, []))

    def test_kinds(self):
        pairs, number, cards = asked(game_of(), FINESSE, 5)
        self.assertEqual((type(pairs), type(number), type(cards)), (list, int, list))
        self.assertEqual({type(pair) for pair in pairs}, {tuple})
        self.assertEqual({type(part) for pair in pairs for part in pair}, {int})
        self.assertEqual({type(card) for card in cards}, {int})


class TooManyTest(RefusalCase):
    def assert_too_many(self, game, place):
        self.assertTrue(is_place(game, place))
        for ask in (told, count, best):
            for side in (0, 1, 7):
                self.assert_refused(TooMany, lambda where: ask(game, where, side), place)

    def test_more_than_twelve_cards(self):
        three, four = game_of(seats=3), game_of()
        self.assert_too_many(three, ((1 + 2 + 4 + 8, 2 ** 8 + 2 ** 9 + 2 ** 10 + 2 ** 11, 31 << 16), 0, (31 - 7, 31)))
        self.assert_too_many(three, ((31, 31 << 8, 31 << 16), 0, ()))
        self.assert_too_many(four, ((7, 7 << 8, 7 << 16, 15 << 24), 0, (3, 11, 19)))
        self.assert_too_many(four, ((15, 15 << 8, 15 << 16, 15 << 24), 2, ()))
        self.assert_too_many(four, ((255, 255 << 8, 255 << 16, 255 << 24), 3, ()))

    def test_twelve_cards_are_not_too_many(self):
        chance = seeded(12)
        for duty in DUTY_WORDS:
            for seats in (3, 4):
                game = game_of(duty, 1, seats)
                place = some_place(chance, game, 12 // seats, 0)
                numbers = [count(game, place, side) for side in (0, 1, 2 ** seats - 2, 2 ** seats - 1)]
                self.assertEqual((numbers[0], numbers[3]), (0, 12 // seats))
                self.assertEqual(numbers[1] + numbers[2], 12 // seats)


class AllPlayTest(unittest.TestCase):
    def test_small_places(self):
        chance = seeded(17)
        for number in range(250):
            game = some_game(chance, duty=DUTY_WORDS[number % 4])
            place = some_place(chance, game, 2, chance.randint(0, 8))
            for side in range(2 ** game.table.seats):
                self.assertEqual(asked(game, place, side), wanted(game, place, side), (place, side))

    def test_places_of_three_tricks(self):
        chance = seeded(71)
        for number in range(60):
            game = some_game(chance, duty=DUTY_WORDS[number % 4])
            place = some_place(chance, game, 3, chance.randint(0, 3))
            side = chance.randrange(2 ** game.table.seats)
            self.assertEqual(asked(game, place, side), wanted(game, place, side), (place, side))

    def test_places_of_four_tricks(self):
        chance = seeded(4)
        for duty in DUTY_WORDS[1:]:
            game = some_game(chance, 3, duty)
            place = some_place(chance, game, 4, 0)
            self.assertEqual(asked(game, place, 5), wanted(game, place, 5), place)

    def test_a_side_and_the_others_make_all(self):
        chance = seeded(3)
        for number in range(80):
            game = some_game(chance)
            place = some_place(chance, game, 3, chance.randint(0, 6))
            everybody = 2 ** game.table.seats - 1
            side = chance.randint(0, everybody)
            self.assertEqual(count(game, place, side) + count(game, place, everybody - side), left(place))
            self.assertEqual(best(game, place, side), best(game, place, everybody - side))

    def test_the_numbers_differ(self):
        """The places above are no proof where all moves of each have the same number."""
        chance = seeded(17)
        unlike = 0
        for number in range(250):
            game = some_game(chance, duty=DUTY_WORDS[number % 4])
            place = some_place(chance, game, 2, chance.randint(0, 8))
            unlike += len({made for card, made in told(game, place, 1)}) > 1
        self.assertGreater(unlike, 10)


class OwnTest(unittest.TestCase):
    def test_the_lists_are_the_askers_own(self):
        game = game_of()
        before = asked(game, FINESSE, 5)
        for ask in (told, best):
            ask(game, FINESSE, 5).clear()
            ask(game, FINESSE, 5).append((31, 9))
            ask(game, FINESSE, 5).reverse()
            self.assertEqual(asked(game, FINESSE, 5), before)
        lists = (told(game, FINESSE, 5), best(game, FINESSE, 5))
        kept = copy.deepcopy(lists)
        asked(game, FINESSE, 10)
        asked(game_of("free", 0), FINESSE, 5)
        self.assertEqual(lists, kept)

    def test_what_is_handed_in_stays_as_it_was(self):
        game, place = game_of("beat", 1), copy.deepcopy(FINESSE)
        asked(game, place, 5)
        self.assertEqual(place, FINESSE)
        self.assertEqual((game.table.text(), game.trump), (game_of("beat", 1).table.text(), 1))


class ByTurnsTest(unittest.TestCase):
    def test_two_sides_of_one_place(self):
        game = game_of()
        for number in range(3):
            self.assertEqual(asked(game, FINESSE, 5), ([(0, 2), (8, 0)], 2, [0]))
            self.assertEqual(asked(game, FINESSE, 10), ([(0, 0), (8, 2)], 0, [0]))
            self.assertEqual(asked(game, FINESSE, 15), ([(0, 2), (8, 2)], 2, [0, 8]))

    def test_two_games(self):
        chance = seeded(99)
        games = [game_of(duty, trump, 3, "2x4", plain) for duty in ("free", "beat") for trump in (None, 1)
                 for plain in ("1234", "4321")]
        places = [some_place(chance, games[0], 2, 0) for number in range(4)]
        first = [[asked(game, place, 3) for place in places] for game in games]
        self.assertEqual(first, [[wanted(game, place, 3) for place in places] for game in games])
        self.assertGreater(len({repr(row) for row in first}), 2)
        for number, place in enumerate(places):
            for row, game in zip(first, games):
                self.assertEqual(told(game, place, 3), row[number][0])
                self.assertEqual(count(game, place, 3), row[number][1])
                self.assertEqual(best(game, place, 3), row[number][2])


if __name__ == "__main__":
    unittest.main()

"""Papers told for a place and a need: that they hold, what their rows are, and what is refused [21], [3]."""

import copy
import unittest

from tests.helper import (DUTY_WORDS, RefusalCase, count_by_words, game_of, holds_by_words, is_of_side, place_of,
                          places_from, places_of_all_kinds, seeded, some_game, some_place)
from trickproof.checker import holds, row_right
from trickproof.counts import count
from trickproof.errors import TooMany, TooMuch
from trickproof.packs import read_card
from trickproof.papers import paper
from trickproof.places import is_place, left

FINESSE = place_of("a1 b1 / a3 b2 / a2 a4 / b3 b4")


class PaperCase(RefusalCase):
    def assert_paper(self, game, side, place, need, reached=None):
        """The paper for the need holds, and its rows are such as the document tells; it is given back."""
        rows = paper(game, side, place, need)
        self.assertIs(type(rows), list)
        self.assertIs(holds(game, side, rows, place, need), True, (place, side, need))
        reached = places_from(game, place) if reached is None else reached
        self.assertEqual({row[0] for row in rows} - reached, set())
        self.assertEqual(len({row[:2] for row in rows}), len(rows))
        if need <= 0:
            self.assertEqual(rows, [])
        return rows

    def assert_too_much(self, game, side, place, need, number):
        refusal = self.refusal_of(paper, game, side, place, need)
        self.assertIs(type(refusal), TooMuch)
        self.assertEqual(refusal.count, number, (place, side, need))
        self.assertIs(type(refusal.count), int)


class KnownTest(PaperCase):
    def assert_has(self, game, side, place, need, expected):
        """Rows that no paper for the need can do without."""
        self.assertEqual(set(expected) - set(self.assert_paper(game, side, place, need)), set())

    def test_a_play_with_one_way_alone(self):
        game, place = game_of("follow", None, 3), place_of("a3 b1 / a1 b2 / a2 b3")
        self.assert_has(game, 1, place, 1, [(place, 1, read_card("a3")),
                                            (place_of("b1 / a1 b2 / a2 b3", 0, "a3"), 1, None),
                                            (place_of("b1 / b2 / a2 b3", 0, "a3 a1"), 1, None)])
        self.assert_too_much(game, 1, place, 2, 1)

    def test_in_the_midst_of_a_trick_with_a_trump(self):
        game, place = game_of("cut", 1), place_of("b5 c1 / a1 c2 / c3 / c4", 2, "a2 a8")
        self.assert_has(game, 1, place, 1, [(place, 1, read_card("b5")),
                                            (place_of("c1 / a1 c2 / c3 / c4", 2, "a2 a8 b5"), 1, None)])
        self.assert_too_much(game, 1, place, 2, 1)

    def test_the_last_card(self):
        game, place = game_of(seats=3), place_of("- / - / a1", 0, "a2 a3")
        self.assertEqual(paper(game, 2, place, 1), [(place, 1, None)])
        self.assertEqual(paper(game, 6, place, 1), [(place, 1, 0)])
        self.assert_too_much(game, 4, place, 1, 0)
        self.assert_too_much(game, 1, place, 1, 0)
        self.assert_too_much(game, 2, place, 2, 1)

    def test_led_to_the_tenace(self):
        game = game_of()
        for need in (1, 2):
            rows = self.assert_paper(game, 5, FINESSE, need)
            # By card 8 the side makes nothing, so the first row has card 0.
            self.assertIn((FINESSE, need, 0), rows)
        self.assert_too_much(game, 5, FINESSE, 3, 2)
        self.assert_too_much(game, 10, FINESSE, 1, 0)

    def test_no_seats_and_all_seats(self):
        for seats in (3, 4):
            game = game_of(seats=seats)
            place = some_place(seeded(seats), game, 2, 1)
            self.assert_too_much(game, 0, place, 1, 0)
            self.assertEqual(paper(game, 0, place, 0), [])
            self.assert_paper(game, 2 ** seats - 1, place, 2)
            self.assert_too_much(game, 2 ** seats - 1, place, 3, 2)

    def test_nothing_is_left(self):
        for seats in (3, 4):
            game, place = game_of(seats=seats), ((0,) * seats, 1, ())
            for side in range(2 ** seats):
                self.assertEqual([paper(game, side, place, need) for need in (0, -1)], [[], []])
                self.assert_too_much(game, side, place, 1, 0)

    def test_kinds(self):
        rows = paper(game_of(), 5, FINESSE, 2)
        self.assertEqual({type(row) for row in rows}, {tuple})
        self.assertEqual({len(row) for row in rows}, {3})
        for place, need, card in rows:
            self.assertEqual([type(part) for part in place], [tuple, int, tuple])
            self.assertEqual({type(number) for number in place[0] + place[2] + (need,)}, {int})
            self.assertIn(type(card), (int, type(None)))
        self.assertEqual({type(row[2]) for row in rows}, {int, type(None)})


class AllNeedsTest(PaperCase):
    def test_each_need_to_the_count(self):
        chance = seeded(21)
        shown = 0
        for game, place in places_of_all_kinds(chance, 2):
            reached = places_from(game, place)
            for side in range(2 ** game.table.seats):
                number = count_by_words(game, place, side)
                for need in range(-2, number + 1):
                    rows = self.assert_paper(game, side, place, need, reached)
                    self.assertTrue(holds_by_words(game, side, rows, place, need))
                    shown += need > 0
                for need in (number + 1, number + 2, left(place) + 5):
                    self.assert_too_much(game, side, place, max(need, 1), number)
        self.assertGreater(shown, 500)

    def test_places_of_three_tricks(self):
        chance = seeded(210)
        for game, place in places_of_all_kinds(chance, 3):
            reached = places_from(game, place)
            for side in chance.sample(range(2 ** game.table.seats), 4):
                number = count(game, place, side)
                for need in range(-1, number + 1):
                    self.assert_paper(game, side, place, need, reached)
                self.assert_too_much(game, side, place, number + 1, number)

    def test_twelve_cards(self):
        chance = seeded(211)
        for seats in (3, 4):
            for duty in DUTY_WORDS:
                for trumps in ([None], [0, 1]):
                    game = some_game(chance, seats, duty, trumps)
                    place = some_place(chance, game, 12 // seats, 0)
                    for side in (1, 2, 5, 2 ** seats - 2):
                        number = count(game, place, side)
                        for need in range(-1, number + 1):
                            self.assert_paper(game, side, place, need)
                        self.assert_too_much(game, side, place, number + 1, number)

    def test_a_side_and_the_others_show_all_that_is_left(self):
        chance = seeded(212)
        for game, place in places_of_all_kinds(chance, 3):
            everybody = 2 ** game.table.seats - 1
            side = chance.randint(0, everybody)
            number = count(game, place, side)
            self.assert_paper(game, side, place, number)
            self.assert_paper(game, everybody - side, place, left(place) - number)
            self.assert_too_much(game, everybody - side, place, left(place) - number + 1, left(place) - number)

    def test_very_great_and_very_small_needs(self):
        game = game_of()
        for need in (0, -1, -100, -10 ** 59):
            for side in range(16):
                self.assertEqual(paper(game, side, FINESSE, need), [])
        for need in (3, 100, 10 ** 59):
            self.assert_too_much(game, 5, FINESSE, need, 2)

    def test_each_row_is_right_and_shows_no_more_than_the_count(self):
        chance = seeded(213)
        for game, place in places_of_all_kinds(chance, 2):
            side = chance.randrange(2 ** game.table.seats)
            rows = paper(game, side, place, count(game, place, side))
            for row in rows[:20]:
                self.assertIs(is_place(game, row[0]), True)
                self.assertIs(row_right(game, side, rows, row), True)
                self.assertLessEqual(row[1], count_by_words(game, row[0], side))
                seat = (row[0][1] + len(row[0][2])) % len(row[0][0])
                self.assertEqual(row[2] is not None, is_of_side(side, seat))


class TooManyTest(PaperCase):
    def assert_too_many(self, game, place):
        self.assertTrue(is_place(game, place))
        for side in (0, 1, 2 ** game.table.seats - 1):
            for need in (-10 ** 59, -1, 0, 1, 3, 9, 10 ** 59):
                self.assert_refused(TooMany, lambda where: paper(game, side, where, need), place)

    def test_more_than_twelve_cards_whatever_the_need(self):
        three, four = game_of(seats=3), game_of()
        self.assert_too_many(three, ((15, 15 << 8, 31 << 16), 0, (24, 31)))
        self.assert_too_many(three, ((31, 31 << 8, 31 << 16), 0, ()))
        self.assert_too_many(four, ((7, 7 << 8, 7 << 16, 15 << 24), 0, (3, 11, 19)))
        self.assert_too_many(four, ((15, 15 << 8, 15 << 16, 15 << 24), 2, ()))
        self.assert_too_many(four, ((255, 255 << 8, 255 << 16, 255 << 24), 3, ()))

    def test_twelve_cards_are_not_too_many(self):
        self.assertEqual(paper(game_of(seats=3), 1, ((15, 15 << 8, 15 << 16), 0, ()), 0), [])
        self.assert_paper(game_of(), 15, ((7, 7 << 8, 7 << 16, 7 << 24), 0, ()), 3)


class OwnTest(PaperCase):
    def test_the_lists_are_the_askers_own(self):
        game = game_of()
        before = paper(game, 5, FINESSE, 2)
        for change in (lambda rows: rows.clear(), lambda rows: rows.append((FINESSE, 9, None)),
                       lambda rows: rows.reverse(), lambda rows: rows.pop(0)):
            change(paper(game, 5, FINESSE, 2))
            self.assertEqual(paper(game, 5, FINESSE, 2), before)
            nothing = paper(game, 5, FINESSE, 0)
            nothing.append((FINESSE, 1, None))
            self.assertEqual(paper(game, 5, FINESSE, 0), [])
        rows = paper(game, 5, FINESSE, 2)
        kept = copy.deepcopy(rows)
        paper(game, 15, FINESSE, 1).clear()
        paper(game_of("free", 0), 15, FINESSE, 2).clear()
        holds(game, 5, rows, FINESSE, 2)
        self.assertEqual(rows, kept)

    def test_what_is_handed_in_stays_as_it_was(self):
        game, place = game_of("beat", 1), copy.deepcopy(FINESSE)
        paper(game, 15, place, 2)
        self.refusal_of(paper, game, 0, place, 2)
        self.assertEqual(place, FINESSE)
        self.assertEqual((game.table.text(), game.trump), (game_of("beat", 1).table.text(), 1))


class ByTurnsTest(PaperCase):
    def test_both_sides_of_one_place(self):
        game, place = game_of(seats=3), place_of("a4 b1 / a1 b4 / a2 b2")
        for number in range(3):
            self.assert_paper(game, 1, place, 1)
            self.assert_too_much(game, 1, place, 2, 1)
            self.assert_paper(game, 6, place, 1)
            self.assert_too_much(game, 6, place, 2, 1)
            self.assert_paper(game, 7, place, 2)
            self.assert_too_much(game, 0, place, 1, 0)

    def test_two_games(self):
        place = place_of("a8 c1 / b1 b2 / a1 c2", 0)
        games = [game_of("follow", None, 3), game_of("follow", 1, 3), game_of("follow", None, 3, plain="87654321")]
        numbers = [[count_by_words(game, place, side) for side in (1, 2, 6)] for game in games]
        self.assertEqual(numbers, [[1, 0, 1], [0, 2, 2], [1, 0, 1]])
        for attempt in range(2):
            for game, row in zip(games, numbers):
                for side, number in zip((1, 2, 6), row):
                    self.assert_paper(game, side, place, number)
                    self.assert_too_much(game, side, place, number + 1, number)

    def test_two_games_asked_in_any_order(self):
        chance = seeded(99)
        games = [game_of(duty, trump, 3, "2x4", plain) for duty in ("free", "beat") for trump in (None, 1)
                 for plain in ("1234", "4321")]
        place = some_place(chance, games[0], 2, 0)
        first = [paper(game, 3, place, count(game, place, 3)) for game in games]
        self.assertGreater(len({repr(rows) for rows in first}), 1)
        for game, rows in reversed(list(zip(games, first))):
            self.assertEqual(paper(game, 3, place, count(game, place, 3)), rows)


if __name__ == "__main__":
    unittest.main()

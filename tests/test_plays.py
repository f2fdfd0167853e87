"""Plays from their beginning to their end, and the cards that they refuse [16]; no card is lost [3]."""

import copy
import unittest

from tests.helper import (DUTY_WORDS, RefusalCase, behind_by_words, bits, cards_of, game_of, moves_by_words, read_cards,
                          seeded, some_deal, some_game)
from trickproof.errors import BadPlay, NoPlay
from trickproof.packs import read_card, read_deal
from trickproof.plays import Play

DEAL = "a12 b1 / a34 b2 / a56 c1"


def state(play):
    return (play.place(), play.turn(), play.may(), play.taken(), play.played(), play.dealt(), play.begun_by())


def play_of(deal=DEAL, lead=0, cards="", game=None):
    """A play in which the cards of the text have been put."""
    play = Play(game or game_of(seats=3), read_deal(deal), lead)
    for card in read_cards(cards):
        play.put(play.turn(), card)
    return play


class NoPlayTest(RefusalCase):
    def assert_no_play(self, deal, lead=0, game=None):
        self.assert_refused(NoPlay, lambda hands: Play(game or game_of(seats=3, pack="2x4"), hands, lead), deal)

    def test_another_number_of_hands(self):
        for deal in ([], [1], [1, 2], [1, 2, 4, 8], [0, 0, 0, 0], [0] * 40):
            self.assert_no_play(deal)
        self.assert_no_play([1, 2, 4], 0, game_of())

    def test_a_card_that_is_not_of_the_pack(self):
        for card in (4, 7, 12, 16, 24, 31, 32, 100, 198):
            for seat in range(3):
                deal = [1, 2, 8]
                deal[seat] = 2 ** card
                self.assert_no_play(deal)
        self.assert_no_play([1, 2, 2 ** 32], 0, game_of(seats=3))

    def test_a_card_that_is_there_twice(self):
        for deal in ([1, 1, 2], [1, 2, 1], [2, 1, 1], [3, 12, 9], [1, 1, 1]):
            self.assert_no_play(deal)

    def test_unlike_numbers_of_cards(self):
        for deal in ([0, 0, 1], [1, 0, 0], [1, 2, 0], [1, 2, 12], [3, 4, 8], [3, 12, 0]):
            self.assert_no_play(deal)

    def test_a_lead_that_is_no_seat(self):
        for lead in (-1, -3, 3, 4, 100, 10 ** 59, -10 ** 59):
            self.assert_no_play([1, 2, 4], lead)
            self.assert_no_play([0, 0, 0], lead)
        self.assert_no_play([1, 2, 4, 8], 4, game_of())

    def test_plays(self):
        for lead in range(3):
            self.assertEqual(Play(game_of(seats=3, pack="2x4"), [1, 2, 4], lead).turn(), lead)
        self.assertEqual(Play(game_of(pack="1x4"), [1, 2, 4, 8], 3).turn(), 3)


class ToldTest(unittest.TestCase):
    def test_the_beginning(self):
        game, deal = game_of(seats=3), read_deal(DEAL)
        play = Play(game, deal, 1)
        self.assertEqual(state(play), ((tuple(deal), 1, ()), 1, read_cards("a3 a4 b2"), [0, 0, 0], [], deal, 1))
        self.assertIs(play.game, game)

    def test_a_play_card_by_card(self):
        play = play_of(lead=2)
        hands = [read_cards("a1 a2 b1"), read_cards("a3 a4 b2"), read_cards("a5 a6 c1")]
        lead, trick, taken, played = 2, [], [0, 0, 0], []
        for seat, text, taker, may in [(2, "a5", None, "a5 a6 c1"), (0, "a1", None, "a1 a2"), (1, "a4", 2, "a3 a4"),
                                       (2, "c1", None, "a6 c1"), (0, "b1", None, "a2 b1"), (1, "a3", 2, "a3 b2"),
                                       (2, "a6", None, "a6"), (0, "a2", None, "a2"), (1, "b2", 2, "b2")]:
            card = read_card(text)
            self.assertEqual(play.turn(), seat)
            self.assertEqual(play.may(), read_cards(may))
            self.assertEqual(play.place(), (tuple(bits(*hand) for hand in hands), lead, tuple(trick)))
            self.assertEqual(play.taken(), taken)
            self.assertEqual(play.played(), played)
            self.assertEqual(play.put(seat, card), taker)
            hands[seat].remove(card)
            trick.append(card)
            played.append(card)
            if taker is not None:
                lead, trick = taker, []
                taken[taker] += 1
            self.assertEqual(play.dealt(), read_deal(DEAL))
            self.assertEqual(play.begun_by(), 2)
        self.assertEqual(state(play), (((0, 0, 0), 2, ()), None, [], [0, 0, 3], played, read_deal(DEAL), 2))

    def test_a_deal_without_cards(self):
        for seats in (3, 4):
            play = Play(game_of(seats=seats), [0] * seats, 2)
            self.assertEqual(state(play), (((0,) * seats, 2, ()), None, [], [0] * seats, [], [0] * seats, 2))

    def test_kinds(self):
        play = play_of(cards="a1 a3 a5")
        self.assertEqual([type(part) for part in play.place()], [tuple, int, tuple])
        self.assertIs(type(play.turn()), int)
        for told in (play.may(), play.taken(), play.played(), play.dealt()):
            self.assertIs(type(told), list)
            self.assertEqual({type(part) for part in told}, {int})


class RefusedTest(RefusalCase):
    def assert_bad(self, play, seat, card, rule, trick):
        before = state(play)
        refusal = self.refusal_of(play.put, seat, card)
        self.assertIs(type(refusal), BadPlay)
        self.assertEqual((refusal.rule, refusal.trick), (rule, trick))
        self.assertEqual((type(refusal.rule), type(refusal.trick)), (str, int))
        self.assertEqual(state(play), before)

    def test_over(self):
        play = play_of("a1 / a2 / a3", 0, "a1 a2 a3")
        empty = Play(game_of(), [0, 0, 0, 0], 1)
        for seat in (0, 1, 2, 3, -1, 10 ** 59):
            for card in (0, 2, 31, 1000, -1):
                self.assert_bad(play, seat, card, "over", 1)
                self.assert_bad(empty, seat, card, "over", 0)

    def test_turn(self):
        play = play_of(cards="a1")
        for seat in (0, 2, 3, 4, -1, -2, 10 ** 59, -10 ** 59):
            for card in (0, 2, 4, 31, 1000, -1, -1000):
                self.assert_bad(play, seat, card, "turn", 0)

    def test_held(self):
        play = play_of(cards="a1 a3 a5 c1")
        for card in (0, 2, 16, 4, 5, 3, 9, 31, 32, 1000, -1, -1000, -10 ** 59):
            self.assert_bad(play, 0, card, "held", 1)

    def test_the_duty(self):
        for duty, texts in [("follow", ["b1", "b2"]), ("cut", ["b1", "b2"]), ("beat", ["b1", "b2", "a1"])]:
            game = game_of(duty, 1, 3)
            play = play_of("a14 b12 / a2567 / a38 c12", 2, "a3", game)
            for text in texts:
                self.assert_bad(play, 0, read_card(text), duty, 0)
            self.assertIsNone(play.put(0, read_card("a4")))

    def test_cut_and_beat_where_the_suit_is_missing(self):
        for duty in ("cut", "beat"):
            play = play_of("b13 c1 / a567 / a38 b2", 2, "a3", game_of(duty, 1, 3))
            self.assert_bad(play, 0, read_card("c1"), duty, 0)
            self.assertIsNone(play.put(0, read_card("b1")))
        play = play_of("a56 b5 / b13 c1 / a34 c2", 2, "a3 a5", game_of("beat", 1, 3))
        self.assert_bad(play, 1, read_card("c1"), "beat", 0)
        self.assertEqual(play.put(1, read_card("b1")), 1)
        play = play_of("b2 c34 / b13 c1 / a34 c2", 2, "a3 b2", game_of("beat", 1, 3))
        self.assert_bad(play, 1, read_card("b1"), "beat", 0)
        self.assertEqual(play.put(1, read_card("b3")), 1)

    def test_free_forbids_nothing(self):
        play = play_of("a14 b1 / a256 / a38 c1", 2, "a3 b1", game_of("free", 1, 3))
        self.assert_bad(play, 1, 16, "held", 0)
        self.assertEqual(play.put(1, read_card("a2")), 0)

    def test_the_first_rule_that_is_broken(self):
        play = play_of("a14 b1 / a256 / a38 c1", 2, "a3", game_of("follow", 1, 3))
        self.assert_bad(play, 1, read_card("b1"), "turn", 0)
        self.assert_bad(play, 0, read_card("c1"), "held", 0)
        self.assert_bad(play, 0, read_card("b1"), "follow", 0)

    def test_the_number_of_full_tricks(self):
        play = play_of(lead=2)
        for number, text in enumerate(["a5", "a1", "a4", "c1", "b1", "a3", "a6", "a2", "b2"]):
            self.assert_bad(play, (play.turn() + 1) % 3, 0, "turn", number // 3)
            self.assert_bad(play, play.turn(), 31, "held", number // 3)
            play.put(play.turn(), read_card(text))
        self.assert_bad(play, 0, 0, "over", 3)


class ManyPlaysTest(RefusalCase):
    def put_all_wrong(self, play, game, place, number):
        """Each card, put by each seat, that the words of the document refuse."""
        in_turn = (place[1] + len(place[2])) % len(place[0]) if any(place[0]) else None
        for seat in range(-1, len(place[0]) + 1):
            for card in range(-1, 34):
                if in_turn is None:
                    rule = "over"
                elif seat != in_turn:
                    rule = "turn"
                elif card not in cards_of(place[0][seat]):
                    rule = "held"
                elif card not in moves_by_words(game, place):
                    rule = game.table.duty()
                else:
                    continue
                refusal = self.refusal_of(play.put, seat, card)
                self.assertEqual((type(refusal), refusal.rule, refusal.trick), (BadPlay, rule, number))

    def test_plays_of_all_kinds(self):
        chance = seeded(16)
        for number in range(40):
            game = some_game(chance, duty=DUTY_WORDS[number % 4])
            deal, lead = some_deal(chance, game, chance.randint(1, 8)), chance.randrange(game.table.seats)
            play = Play(game, deal, lead)
            place, taken, played = (tuple(deal), lead, ()), [0] * game.table.seats, []
            while any(place[0]):
                self.put_all_wrong(play, game, place, sum(taken))
                card = chance.choice(moves_by_words(game, place))
                seat = (place[1] + len(place[2])) % game.table.seats
                self.assertEqual((play.turn(), play.may()), (seat, moves_by_words(game, place)))
                place, taker = behind_by_words(game, place, card)
                self.assertEqual(play.put(seat, card), taker)
                played.append(card)
                if taker is not None:
                    taken[taker] += 1
                self.assertEqual((play.place(), play.taken(), play.played()), (place, taken, played))
                self.assert_no_card_lost(play, deal)
            self.put_all_wrong(play, game, place, sum(taken))
            self.assertEqual((play.turn(), play.may(), play.dealt(), play.begun_by()), (None, [], deal, lead))

    def assert_no_card_lost(self, play, deal):
        hands, lead, trick = play.place()
        full = play.played()[:sum(play.taken()) * len(deal)]
        everywhere = [card for hand in hands for card in cards_of(hand)] + list(trick) + full
        self.assertEqual(sorted(everywhere), sorted(card for hand in deal for card in cards_of(hand)))


class OwnTest(unittest.TestCase):
    def test_the_deal_is_copied(self):
        deal = read_deal(DEAL)
        before = copy.copy(deal)
        play = Play(game_of(seats=3), deal, 0)
        play.put(0, 0)
        self.assertEqual(deal, before)
        told = state(play)
        deal[0] = 0
        deal.append(7)
        self.assertEqual(state(play), told)
        self.assertEqual(play.put(1, 2), None)

    def test_the_lists_are_the_askers_own(self):
        play = play_of(cards="a1 a3 a5")
        told = copy.deepcopy(state(play))
        for ask in (play.may, play.taken, play.played, play.dealt):
            ask().append(31)
            ask().clear()
            ask().extend([5, 6, 7])
            self.assertEqual(state(play), told)
        lists = (play.may(), play.taken(), play.played(), play.dealt())
        before = copy.deepcopy(lists)
        play.put(2, read_card("a6"))
        play.put(0, read_card("a2"))
        play.put(1, read_card("a4"))
        self.assertEqual(lists, before)
        self.assertEqual(play.taken(), [0, 0, 2])


class ByTurnsTest(unittest.TestCase):
    def test_two_plays_of_one_game(self):
        game = game_of(seats=3)
        one, other = Play(game, read_deal(DEAL), 0), Play(game, read_deal("b12 / c12 / d12"), 1)
        beginning = state(other)
        self.assertIsNone(one.put(0, read_card("a1")))
        self.assertEqual(state(other), beginning)
        self.assertIsNone(other.put(1, read_card("c2")))
        self.assertEqual((one.turn(), other.turn()), (1, 2))
        self.assertEqual((one.played(), other.played()), ([0], [17]))
        one.put(1, read_card("a3"))
        other.put(2, read_card("d1"))
        self.assertEqual(one.put(2, read_card("a6")), 2)
        self.assertEqual((one.taken(), other.taken()), ([0, 0, 1], [0, 0, 0]))
        self.assertEqual(other.put(0, read_card("b1")), 1)
        self.assertEqual((one.taken(), other.taken()), ([0, 0, 1], [0, 1, 0]))
        self.assertEqual((one.dealt(), other.dealt()), (read_deal(DEAL), read_deal("b12 / c12 / d12")))

    def test_two_plays_of_one_deal(self):
        game, deal = game_of(seats=3), read_deal(DEAL)
        one, other = Play(game, deal, 0), Play(game, deal, 0)
        one.put(0, 0)
        self.assertEqual((one.turn(), other.turn()), (1, 0))
        other.put(0, 8)
        self.assertEqual((one.may(), other.may()), (read_cards("a3 a4"), read_cards("b2")))
        self.assertEqual((one.played(), other.played()), ([0], [8]))


if __name__ == "__main__":
    unittest.main()

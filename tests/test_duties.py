"""What may be played, by each of the four duties [10], and the duties by their words [8]."""

import itertools
import unittest

from tests.helper import NO_TEXTS, RefusalCase
from trickproof.duties import Beat, Cut, Follow, Free, duty_of
from trickproof.errors import NoTable
from trickproof.packs import hand_text, read_card, read_hand
from trickproof.rules import Rule
from trickproof.tables import Game, Table

DUTIES = {"free": Free, "follow": Follow, "cut": Cut, "beat": Beat}


def game_of(word, trump=None, pack="4x8", plain="12345678", trumps="12345678"):
    return Game(Table(f"pack {pack} seats 4 duty {word} plain {plain} trump {trumps}"), trump)


def cards_of(text):
    return tuple([read_card(word) for word in text.split(" ")]) if text else ()


def wanted(game, word, cards, trick):
    """What the document allows, over lists of cards in the place of hands."""
    if not trick or word == "free":
        return cards
    led = trick[0] // 8
    followers = [card for card in cards if card // 8 == led]
    trumps = [card for card in cards if card // 8 == game.trump]
    if word == "follow":
        return followers or cards
    cut = followers or trumps or cards
    if word == "cut":
        return cut
    return [card for card in cut if all(game.is_over(card, other, led) for other in trick)] or cut


class DutyOfTest(RefusalCase):
    def test_each_word(self):
        for word, duty in DUTIES.items():
            self.assertIs(type(duty_of(word)), duty)
            self.assertEqual(duty_of(word).word(), word)
            self.assertEqual(duty().word(), word)
            self.assertIs(type(duty().word()), str)

    def test_each_is_under_rule(self):
        for word in DUTIES:
            self.assertIsInstance(duty_of(word), Rule)

    def test_words_of_no_duty(self):
        for word in ["", " ", "Free", "FREE", "free ", " free", "free\n", "fre", "frees", "follows", "cut beat", "rule",
                     "flat", "steps", "even", "beat" * 100]:
            self.assert_refused(NoTable, duty_of, word)

    def test_things_that_are_no_texts(self):
        for thing in NO_TEXTS + [["free"], ("free",), {"free": True}]:
            self.assert_refused(NoTable, duty_of, thing)


class MayCase(unittest.TestCase):
    def assert_may(self, game, hand, trick, text):
        self.assertEqual(hand_text(game.may(read_hand(hand), cards_of(trick))), text)
        if trick:
            duty = duty_of(game.table.duty())
            self.assertEqual(hand_text(duty.allowed(game, read_hand(hand), cards_of(trick))), text)


class KnownTest(MayCase):
    def test_to_an_empty_trick(self):
        for word, trump in itertools.product(DUTIES, (None, 0, 1, 2, 3)):
            for hand in ("a1", "a135 c27", "d8", "b1 c1 d1"):
                self.assert_may(game_of(word, trump), hand, "", hand)

    def test_free(self):
        for trump in (None, 0, 1):
            for trick in ("a3", "b3 a1", "d1 d2 d3"):
                self.assert_may(game_of("free", trump), "a135 b2 c27", trick, "a135 b2 c27")

    def test_follow(self):
        game = game_of("follow", 1)
        self.assert_may(game, "a135 b2 c27", "a8", "a135")
        self.assert_may(game, "a135 b2 c27", "c8 b1 a2", "c27")
        self.assert_may(game, "a135 b2 c27", "b8", "b2")
        self.assert_may(game, "a135 b2 c27", "d8", "a135 b2 c27")
        self.assert_may(game, "d1", "a1 a2 a3", "d1")
        self.assert_may(game_of("follow"), "a135 c27", "b8", "a135 c27")

    def test_cut(self):
        game = game_of("cut", 1)
        self.assert_may(game, "a135 b28 c27", "a8", "a135")
        self.assert_may(game, "a135 b28 c27", "d8", "b28")
        self.assert_may(game, "a135 b28 c27", "d8 b7", "b28")
        self.assert_may(game, "a135 b28 c27", "b3", "b28")
        self.assert_may(game, "a135 c27", "d8", "a135 c27")
        self.assert_may(game, "a135 c27", "b8", "a135 c27")
        self.assert_may(game_of("cut"), "a135 b28 c27", "d8", "a135 b28 c27")
        self.assert_may(game_of("cut"), "a135 b28 c27", "c8", "c27")

    def test_beat_in_the_led_suit(self):
        game = game_of("beat", 1)
        self.assert_may(game, "a135 b28 c27", "a2", "a35")
        self.assert_may(game, "a135 b28 c27", "a2 a4", "a5")
        self.assert_may(game, "a135 b28 c27", "a4 a2", "a5")
        self.assert_may(game, "a135 b28 c27", "a8", "a135")
        self.assert_may(game, "a135 b28 c27", "a2 c8 d8", "a35")
        self.assert_may(game, "a135 b28 c27", "a2 b1", "a135")
        self.assert_may(game, "a135 b28 c27", "b3", "b8")

    def test_beat_with_trumps(self):
        game = game_of("beat", 1)
        self.assert_may(game, "a135 b28 c27", "d8", "b28")
        self.assert_may(game, "a135 b28 c27", "d8 b7", "b8")
        self.assert_may(game, "a135 b26 c27", "d8 b7", "b26")
        self.assert_may(game, "a135 c27", "d8", "a135 c27")
        self.assert_may(game, "a135 c27", "b8", "a135 c27")

    def test_beat_without_trumps(self):
        game = game_of("beat")
        self.assert_may(game, "a135 b28 c27", "a2", "a35")
        self.assert_may(game, "a135 b28 c27", "d1", "a135 b28 c27")

    def test_beat_by_the_suits_own_orders(self):
        game = game_of("beat", 1, plain="87654321", trumps="13572468")
        self.assert_may(game, "a135", "a4", "a13")
        self.assert_may(game, "b257", "b3", "b257")
        self.assert_may(game, "b2457", "b7", "b24")
        self.assert_may(game, "b2457", "a7 b7", "b24")

    def test_a_trump_that_the_pack_has_not(self):
        for word in ("cut", "beat"):
            game = game_of(word, 3, "2x3", "123", "123")
            self.assert_may(game, "a12", "b1", "a12")
            self.assert_may(game, "a12 b3", "b1", "b3")


class AllTest(unittest.TestCase):
    def assert_all(self, game, hand_cards, tricks):
        word = game.table.duty()
        for cards in hand_cards:
            hand = sum(2 ** card for card in cards)
            for trick in tricks:
                if set(trick).isdisjoint(cards):
                    told = game.may(hand, trick)
                    self.assertIs(type(told), int)
                    self.assertGreater(told, 0)
                    self.assertEqual(told & ~hand, 0)
                    self.assertEqual(told, sum(2 ** card for card in wanted(game, word, list(cards), trick)))

    def test_all_hands_and_tricks_of_a_small_pack(self):
        pack = [8 * suit + height for suit in range(3) for height in range(2)]
        hands = [cards for size in range(1, 5) for cards in itertools.combinations(pack, size)]
        tricks = [trick for size in range(4) for trick in itertools.permutations(pack, size)]
        for word, trump in itertools.product(DUTIES, (None, 0, 2, 3)):
            self.assert_all(game_of(word, trump, "3x2", "12", "21"), hands, tricks)

    def test_hands_and_tricks_of_three_heights(self):
        pack = [8 * suit + height for suit in range(2) for height in range(3)]
        hands = [cards for size in range(1, 5) for cards in itertools.combinations(pack, size)]
        tricks = [trick for size in range(4) for trick in itertools.permutations(pack, size)]
        for word, trump in itertools.product(DUTIES, (None, 0, 1)):
            self.assert_all(game_of(word, trump, "2x3", "312", "231"), hands, tricks)


class ByTurnsTest(MayCase):
    def test_duties_asked_by_turns(self):
        for turn in range(2):
            for word, text in (("free", "a135 b28"), ("follow", "a135"), ("cut", "a135"), ("beat", "a35")):
                self.assert_may(game_of(word, 1), "a135 b28", "a2", text)

    def test_a_duty_asked_of_two_games_by_turns(self):
        duty = Cut()
        games = [game_of("cut", 0), game_of("cut", 1), game_of("cut")]
        hand = read_hand("a1 b1 c1")
        for turn in range(2):
            told = [hand_text(duty.allowed(game, hand, cards_of("d1"))) for game in games]
            self.assertEqual(told, ["a1", "b1", "a1 b1 c1"])

    def test_a_duty_is_its_own_whatever_the_table_s(self):
        game = game_of("free", 1)
        hand, trick = read_hand("a135 b28"), cards_of("a2")
        told = [hand_text(duty().allowed(game, hand, trick)) for duty in DUTIES.values()]
        self.assertEqual(told, ["a135 b28", "a135", "a135", "a35"])


if __name__ == "__main__":
    unittest.main()

"""Alike moves and the groups that they make, and that all moves of a group have the same number [18]."""

import copy
import unittest

from tests.helper import (bits, cards_of, game_of, moves_by_words, place_of, places_of_all_kinds, read_cards, seeded,
                          told_by_words)
from trickproof.alike import alike
from trickproof.counts import told
from trickproof.packs import card_text
from trickproof.places import is_place, moves
from trickproof.plays import Play


def groups_text(groups):
    return " / ".join(" ".join(card_text(card) for card in group) for group in groups)


def are_alike_by_words(game, place, card, other):
    """Whether two moves are alike by the words of the document, card against card."""
    hands, lead, trick = place
    if card // 8 != other // 8:
        return False
    seat = (lead + len(trick)) % len(hands)
    there = set(trick).union(*(cards_of(hand) for number, hand in enumerate(hands) if number != seat))
    order = game.table.order(card // 8 == game.trump)
    ends = sorted([order.index(card % 8), order.index(other % 8)])
    return not any(card // 8 * 8 + height in there for height in order[ends[0] + 1:ends[1]])


def alike_by_words(game, place):
    """The groups, each move being put to the first group whose moves are all alike to it."""
    groups = []
    for card in moves_by_words(game, place):
        for group in groups:
            if all(are_alike_by_words(game, place, card, other) for other in group):
                group.append(card)
                break
        else:
            groups.append([card])
    return groups


class GroupsTest(unittest.TestCase):
    def assert_groups(self, expected, game, place):
        self.assertTrue(is_place(game, place), place)
        self.assertEqual(groups_text(alike(game, place)), expected)

    def test_a_card_in_another_hand_parts(self):
        three = game_of(seats=3)
        self.assert_groups("a1 a2 / a4 a5", three, place_of("a1 a2 a4 a5 / a3 b1 b2 b3 / c1 c2 c3 c4"))
        self.assert_groups("a1 a2 / a4 a5", three, place_of("a1 a2 a4 a5 / b1 b2 b3 b4 / c1 c2 c3 a3"))
        self.assert_groups("a1 a2 a4 a5", three, place_of("a1 a2 a4 a5 / b1 b2 b3 b4 / c1 c2 c3 c4"))
        for seat in range(1, 4):
            hands = ["a1 a5 b1", "c1 c2 c3", "c4 c5 c6", "d1 d2 d3"]
            self.assert_groups("a1 a5 / b1", game_of(), place_of(" / ".join(hands)))
            hands[seat] = hands[seat][:-2] + "a4"
            self.assert_groups("a1 / a5 / b1", game_of(), place_of(" / ".join(hands)))

    def test_a_card_at_no_place_between_does_not_part(self):
        self.assert_groups("a2 a3", game_of(seats=3), place_of("a2 a3 / a1 a8 / a4 a5"))
        self.assert_groups("a1 a8", game_of(seats=3), place_of("a1 a8 / b4 b5 / b6 b7"))

    def test_only_one_suit(self):
        self.assert_groups("a8 / b1", game_of(seats=3), place_of("a8 b1 / c1 c2 / c3 c4"))
        self.assert_groups("a1 / b1 / c1 / d1", game_of(seats=3), place_of("a1 b1 c1 d1 / a8 b8 c8 d8 / a7 b7 c7 d7"))

    def test_the_trick_parts(self):
        self.assert_groups("a1 / a3", game_of(seats=3), place_of("c1 / a1 a3 / b1 b2", 0, "a2"))
        self.assert_groups("a1 a3", game_of(seats=3), place_of("c1 / a1 a3 / b1 b2", 0, "a4"))
        self.assert_groups("a1 / a3", game_of(), place_of("c1 c2 / c3 / b1 / a1 a3", 1, "a5 a2"))
        self.assert_groups("a1 / a3", game_of(), place_of("c1 c2 / c3 / b1 / a1 a3", 1, "d5 a2"))
        self.assert_groups("a1 a3", game_of(), place_of("c1 c2 / c3 / b1 / a1 a3", 1, "d5 a4"))
        self.assert_groups("a1 / a3 / b5", game_of("free", seats=3), place_of("b1 c2 / b2 c3 / a1 a3 b5", 0, "c1 a2"))

    def test_the_seats_own_cards_do_not_part(self):
        self.assert_groups("a1 a2 a3 a4", game_of(seats=3), place_of("a1 a2 a3 a4 / b1 b2 b3 b4 / a5 a6 a7 a8"))

    def test_only_moves_are_in_groups(self):
        place = place_of("b2 b3 b4 / a3 a4 a6 b1 / c1 c2 c3 a5", 0, "a2")
        self.assert_groups("a3 a4 / a6", game_of("follow", seats=3), place)
        self.assert_groups("a3 a4 / a6 / b1", game_of("free", seats=3), place)
        place = place_of("b2 b3 b4 / a1 a3 a4 a6 / c1 c2 c3 a5", 0, "a2")
        self.assert_groups("a3 a4 / a6", game_of("beat", seats=3), place)
        self.assert_groups("a1 / a3 a4 / a6", game_of("cut", seats=3), place)

    def test_cards_of_tricks_taken_stand_nowhere(self):
        game = game_of(seats=3)
        play = Play(game, list(place_of("a1 a3 b8 / a2 c1 c2 / d1 d2 b7")[0]), 0)
        self.assert_groups("a1 / a3 / b8", game, play.place())
        for seat, card in enumerate(read_cards("b8 a2 b7")):
            play.put(seat, card)
        self.assert_groups("a1 a3", game, play.place())

    def test_nobodys_turn(self):
        for seats in (3, 4):
            self.assertEqual(alike(game_of(seats=seats), ((0,) * seats, 1, ())), [])

    def test_more_than_twelve_cards(self):
        place = ((255, 255 << 8, 255 << 16, 255 << 24), 2, ())
        self.assertEqual(alike(game_of(), place), [list(range(16, 24))])
        hands = tuple(bits(*range(seat, 32, 4)) for seat in range(4))
        self.assertEqual(alike(game_of(), (hands, 1, ())), [[card] for card in range(1, 32, 4)])


class OrderTest(unittest.TestCase):
    def test_the_suits_order_tells_what_stands_between(self):
        place = place_of("a1 a3 b1 b3 / a2 b2 c1 c2 / d1 d2 d3 d4")
        plain, trumps = "13245678", "12345678"
        for trump, expected in [(None, "a1 a3 / b1 b3"), (0, "a1 / a3 / b1 b3"), (1, "a1 a3 / b1 / b3"),
                                (2, "a1 a3 / b1 b3"), (3, "a1 a3 / b1 b3")]:
            game = game_of(seats=3, trump=trump, plain=plain, trumps=trumps)
            self.assertEqual(groups_text(alike(game, place)), expected)
        for trump, expected in [(None, "a1 / a3 / b1 / b3"), (0, "a1 a3 / b1 / b3"), (1, "a1 / a3 / b1 b3")]:
            game = game_of(seats=3, trump=trump, plain=trumps, trumps=plain)
            self.assertEqual(groups_text(alike(game, place)), expected)

    def test_a_trump_that_the_pack_has_not(self):
        game = game_of(seats=3, trump=3, pack="1x8", plain="13245678")
        self.assertEqual(groups_text(alike(game, place_of("a1 a3 / a2 a4 / a5 a6"))), "a1 a3")

    def test_each_group_rises_and_they_are_sorted_by_their_first_cards(self):
        place = place_of("a1 a2 a3 a4 / a5 b1 b2 b3 / c1 c2 c3 c4")
        for plain, expected in [("42513678", "a1 a3 / a2 a4"), ("42135678", "a1 a2 a3 a4"),
                                ("32541678", "a1 a4 / a2 a3"), ("87654321", "a1 a2 a3 a4"),
                                ("45321678", "a1 a2 a3 / a4"), ("43521678", "a1 a2 / a3 a4")]:
            self.assertEqual(groups_text(alike(game_of(seats=3, plain=plain), place)), expected)
            turned = game_of(seats=3, trump=0, plain="54321678", trumps=plain)
            self.assertEqual(groups_text(alike(turned, place)), expected)


class AllKindsTest(unittest.TestCase):
    def test_groups_by_words(self):
        chance = seeded(18)
        parted = joined = 0
        for size in (2, 3, 4, 6, 6):
            for game, place in places_of_all_kinds(chance, size):
                groups = alike(game, place)
                self.assertEqual(groups, alike_by_words(game, place), place)
                suits = len({card // 8 for card in moves(game, place)})
                parted += len(groups) > suits
                joined += any(len(group) > 1 for group in groups)
        self.assertGreater(parted, 50)
        self.assertGreater(joined, 50)

    def test_the_groups_are_just_the_moves(self):
        chance = seeded(81)
        for size in (1, 3, 5):
            for game, place in places_of_all_kinds(chance, size):
                groups = alike(game, place)
                self.assertEqual(sorted(card for group in groups for card in group), moves(game, place))
                self.assertNotIn([], groups)
                self.assertEqual(groups, sorted(sorted(group) for group in groups))

    def test_all_moves_of_a_group_have_the_same_number(self):
        chance = seeded(181)
        unlike = joined = 0
        for number in range(2):
            for game, place in places_of_all_kinds(chance, 3):
                groups = alike(game, place)
                for side in range(2 ** game.table.seats):
                    numbers = dict(told(game, place, side))
                    of_groups = [{numbers[card] for card in group} for group in groups]
                    self.assertEqual({len(found) for found in of_groups} - {1}, set(), (place, side))
                    unlike += len(set.union(set(), *of_groups)) > 1
                joined += any(len(group) > 1 for group in groups)
        # Else nothing would be shown: there are groups of several moves, and moves with unlike numbers.
        self.assertGreater(unlike, 100)
        self.assertGreater(joined, 30)

    def test_the_numbers_by_words(self):
        chance = seeded(182)
        for game, place in places_of_all_kinds(chance, 2):
            for side in (1, 2, 5):
                numbers = dict(told_by_words(game, place, side))
                for group in alike(game, place):
                    self.assertEqual(len({numbers[card] for card in group}), 1, (place, side))

    def test_kinds(self):
        groups = alike(game_of(seats=3), place_of("a1 a3 / a2 b1 / b3 b4"))
        self.assertIs(type(groups), list)
        self.assertEqual([type(group) for group in groups], [list, list])
        self.assertEqual({type(card) for group in groups for card in group}, {int})


class OwnTest(unittest.TestCase):
    def test_the_lists_are_the_askers_own(self):
        game, place = game_of(seats=3), place_of("a1 a2 b1 / a3 b2 b3 / c1 c2 c3")
        for change in (lambda groups: groups.clear(), lambda groups: groups[0].append(9),
                       lambda groups: groups[1].clear(), lambda groups: groups.reverse()):
            groups = alike(game, place)
            change(groups)
            self.assertEqual(alike(game, place), [[0, 1], [8]])
        groups = alike(game, place)
        kept = copy.deepcopy(groups)
        alike(game_of("free", 0, 3), place)[0].clear()
        self.assertEqual(groups, kept)

    def test_what_is_handed_in_stays_as_it_was(self):
        game, place = game_of("beat", 1, 3), place_of("a1 a2 b1 / a3 b2 b3 / c1 c2 c3")
        kept = copy.deepcopy(place)
        alike(game, place)
        self.assertEqual(place, kept)
        self.assertEqual((game.table.text(), game.trump), (game_of("beat", 1, 3).table.text(), 1))

    def test_two_games_by_turns(self):
        place = place_of("a1 a3 / a2 b1 / b3 b4")
        games = [game_of(seats=3), game_of(seats=3, plain="13245678"), game_of(seats=3, trump=0, trumps="31245678")]
        for number in range(3):
            for game, expected in zip(games, [[[0], [2]], [[0, 2]], [[0, 2]]]):
                self.assertEqual(alike(game, place), expected)


if __name__ == "__main__":
    unittest.main()

"""Tables told by a text [8], and games: what goes over what, who takes a trick [9]."""

import itertools
import re
import unittest

from tests.helper import NO_TEXTS, RefusalCase, bits
from trickproof.errors import NoTable
from trickproof.packs import read_card
from trickproof.tables import Game, Table

FULL = "pack 4x8 seats 4 duty follow plain 12345678 trump 12375486"
SMALL = "pack 2x3 seats 3 duty beat plain 312 trump 231"
WORDS = ["free", "follow", "cut", "beat"]


def table_text(suits=4, heights=8, seats=4, duty="follow", plain=None, trump=None):
    rising = "12345678"[:heights]
    return f"pack {suits}x{heights} seats {seats} duty {duty} plain {plain or rising} trump {trump or rising}"


def is_table_text(text):
    """Tells tables' texts in another way than the program does."""
    pattern = "pack [1-4]x([1-8]) seats [34] duty (?:free|follow|cut|beat) plain ([1-8]+) trump ([1-8]+)"
    match = re.fullmatch(pattern, text)
    if match is None:
        return False
    heights = int(match[1])
    return all(len(order) == heights == len(set(order)) == int(max(order)) for order in (match[2], match[3]))


def goes_over(game, card, other, led):
    """Which card goes over which, by the words of the document alone."""
    def position(which):
        order = game.table.order(which // 8 == game.trump)
        return order.index(which % 8)
    suit, other_suit = card // 8, other // 8
    of_one_suit = suit == other_suit and (suit == game.trump or suit == led) and position(card) > position(other)
    trump_over_plain = suit == game.trump and other_suit != game.trump
    led_over_others = suit == led and other_suit != led and other_suit != game.trump
    return of_one_suit or trump_over_plain or led_over_others


class TableTest(unittest.TestCase):
    def test_what_a_table_tells(self):
        table = Table(FULL)
        self.assertEqual((table.suits, table.heights, table.seats), (4, 8, 4))
        self.assertEqual(table.text(), FULL)
        self.assertEqual(table.duty(), "follow")
        self.assertEqual(table.order(False), [0, 1, 2, 3, 4, 5, 6, 7])
        self.assertEqual(table.order(True), [0, 1, 2, 6, 4, 3, 7, 5])

    def test_what_a_small_table_tells(self):
        table = Table(SMALL)
        self.assertEqual((table.suits, table.heights, table.seats), (2, 3, 3))
        self.assertEqual(table.text(), SMALL)
        self.assertEqual(table.duty(), "beat")
        self.assertEqual(table.order(False), [2, 0, 1])
        self.assertEqual(table.order(True), [1, 2, 0])

    def test_the_least_table(self):
        table = Table("pack 1x1 seats 3 duty free plain 1 trump 1")
        self.assertEqual((table.suits, table.heights, table.seats), (1, 1, 3))
        self.assertEqual((table.order(False), table.order(True)), ([0], [0]))

    def test_all_sizes_and_words(self):
        for suits, heights, seats, word in itertools.product(range(1, 5), range(1, 9), (3, 4), WORDS):
            text = table_text(suits, heights, seats, word)
            table = Table(text)
            self.assertEqual((table.suits, table.heights, table.seats), (suits, heights, seats))
            self.assertEqual((table.duty(), table.text()), (word, text))
            self.assertEqual(table.order(True), list(range(heights)))

    def test_all_orders_of_four(self):
        for plain, trump in itertools.product(itertools.permutations("1234"), repeat=2):
            table = Table(table_text(3, 4, plain="".join(plain), trump="".join(trump)))
            self.assertEqual(table.order(False), [int(figure) - 1 for figure in plain])
            self.assertEqual(table.order(True), [int(figure) - 1 for figure in trump])

    def test_kinds(self):
        table = Table(SMALL)
        for number in (table.suits, table.heights, table.seats, *table.order(True), *table.order(False)):
            self.assertIs(type(number), int)
        self.assertIs(type(table.text()), str)
        self.assertIs(type(table.duty()), str)
        self.assertIs(type(table.order(True)), list)

    def test_each_list_is_the_askers_own(self):
        table = Table(SMALL)
        for is_trump, wanted in ((False, [2, 0, 1]), (True, [1, 2, 0])):
            told = table.order(is_trump)
            told.append(7)
            told[0] = 5
            self.assertEqual(table.order(is_trump), wanted)
            table.order(is_trump).clear()
            self.assertEqual(table.order(is_trump), wanted)
        self.assertIs(Game(table, 0).is_over(0, 2, 0), True)
        self.assertIs(Game(table, 1).is_over(0, 2, 0), True)
        self.assertIs(Game(table, 1).is_over(1, 0, 0), True)

    def test_two_tables_by_turns(self):
        full, small = Table(FULL), Table(SMALL)
        for turn in range(3):
            self.assertEqual((full.suits, full.heights, full.seats), (4, 8, 4))
            self.assertEqual((small.suits, small.heights, small.seats), (2, 3, 3))
            self.assertEqual((full.duty(), small.duty()), ("follow", "beat"))
            self.assertEqual((full.text(), small.text()), (FULL, SMALL))
            self.assertEqual((full.order(True), small.order(True)), ([0, 1, 2, 6, 4, 3, 7, 5], [1, 2, 0]))
            self.assertEqual((full.order(False), small.order(False)), (list(range(8)), [2, 0, 1]))
            with self.assertRaises(NoTable):
                Table("pack")


class NoTableTest(RefusalCase):
    def test_things_that_are_no_texts(self):
        for thing in NO_TEXTS + [[FULL], (FULL,), FULL.split(" "), {FULL: True}]:
            self.assert_refused(NoTable, Table, thing)

    def test_sizes(self):
        for size in ["0x8", "5x8", "9x8", "4x0", "4x9", "44x8", "4x88", "4x10", "04x8", "4x08", "48", "4X8", "4*8",
                     "x8", "4x", "x", "", "4xx8", "4x8x", "ax8", "4xa", "-4x8", "+4x8", "4.x8", "\u0664x8", "4x\uff18",
                     "\u00b2x8", "4\u00d78", "8x4"]:
            self.assert_refused(NoTable, Table, f"pack {size} seats 4 duty follow plain 12345678 trump 12345678")

    def test_sizes_beyond_the_bounds_with_orders_that_fit_them(self):
        for text in ["pack 4x0 seats 4 duty follow plain  trump ", "pack 0x2 seats 3 duty free plain 12 trump 21",
                     "pack 4x9 seats 4 duty follow plain 123456789 trump 987654321",
                     "pack 5x2 seats 3 duty free plain 12 trump 21"]:
            self.assert_refused(NoTable, Table, text)

    def test_seats(self):
        for seats in ["", "0", "1", "2", "5", "8", "03", "33", "34", "3,", "three", "-3", "+3", "3.0", "\u0663",
                      "\uff13"]:
            self.assert_refused(NoTable, Table, table_text(seats=seats))

    def test_duty_words(self):
        for word in ["", "Free", "FOLLOW", "fre", "frees", "cuts", "rule", "pass", "free,follow", "0", "free\n",
                     "\tcut"]:
            self.assert_refused(NoTable, Table, table_text(duty=word))

    def test_orders(self):
        for order in ["", "1", "12", "123", "12345", "1233", "1123", "1111", "0123", "1235", "12344", "4321 ", "123a",
                      "1-4", "1,2,3,4", "\u06612\u06634", "123\uff14", "11234", "1234567", "12345678", "-1234",
                      "1 2 3 4"]:
            for text in (f"pack 4x4 seats 3 duty cut plain {order} trump 4321",
                         f"pack 4x4 seats 3 duty cut plain 4321 trump {order}"):
                self.assert_refused(NoTable, Table, text)

    def test_marks(self):
        words = FULL.split(" ")
        for at in range(0, 10, 2):
            for mark in ["", "x", "pakc", words[at].upper(), words[at] + "s", words[at][1:], words[(at + 2) % 10]]:
                self.assert_refused(NoTable, Table, " ".join(words[:at] + [mark] + words[at + 1:]))

    def test_words_left_out_added_or_changed_about(self):
        words = FULL.split(" ")
        for at in range(10):
            self.assert_refused(NoTable, Table, " ".join(words[:at] + words[at + 1:]))
            self.assert_refused(NoTable, Table, " ".join(words[:at]))
            self.assert_refused(NoTable, Table, " ".join(words[:at] + [words[at]] + words[at:]))
        parts = [" ".join(words[at:at + 2]) for at in range(0, 10, 2)]
        for order in itertools.permutations(parts):
            if list(order) != parts:
                self.assert_refused(NoTable, Table, " ".join(order))
        self.assert_refused(NoTable, Table, FULL + " " + FULL)

    def test_blanks(self):
        for text in ["", " ", " " * 9, " " * 400, " " + FULL, FULL + " ", FULL + "\n", "\n" + FULL,
                     FULL.replace(" ", "  "), FULL.replace(" ", "\t"), FULL.replace(" ", "\n"), FULL.replace(" ", ""),
                     FULL.replace(" ", ","), FULL.replace(" ", "\u00a0"), FULL.upper()]:
            self.assert_refused(NoTable, Table, text)

    def test_one_sign_left_out_added_or_changed(self):
        refused = 0
        for good in (SMALL, "pack 3x2 seats 4 duty cut plain 21 trump 12"):
            texts = [good[:at] + good[at + 1:] for at in range(len(good))]
            for sign in "0123456789 xabcdefu-\n":
                texts += [good[:at] + sign + good[at:] for at in range(len(good) + 1)]
                texts += [good[:at] + sign + good[at + 1:] for at in range(len(good))]
            for text in texts:
                if is_table_text(text):
                    self.assertEqual(Table(text).text(), text)
                else:
                    refused += 1
                    with self.assertRaises(NoTable):
                        Table(text)
        self.assertGreater(refused, 3000)


class GameTest(unittest.TestCase):
    def test_its_values(self):
        table = Table(SMALL)
        self.assertIs(Game(table).table, table)
        self.assertIsNone(Game(table).trump)
        self.assertIsNone(Game(table, None).trump)
        for trump in range(4):
            self.assertEqual(Game(table, trump).trump, trump)
            self.assertEqual(Game(table, trump=trump).table.text(), SMALL)

    def test_pack(self):
        for suits, heights in itertools.product(range(1, 5), range(1, 9)):
            wanted = bits(*[8 * suit + height for suit in range(suits) for height in range(heights)])
            for trump in (None, 0, 3):
                game = Game(Table(table_text(suits, heights)), trump)
                self.assertEqual(game.pack(), wanted)
                self.assertIs(type(game.pack()), int)
        self.assertEqual(Game(Table(FULL)).pack(), 2 ** 32 - 1)
        self.assertEqual(Game(Table(SMALL)).pack(), 7 + 7 * 2 ** 8)

    def assert_over(self, game, text, other, led):
        """The one card goes over the other, and so not the other way round."""
        card, other_card, suit = read_card(text), read_card(other), "abcd".index(led)
        self.assertIs(game.is_over(card, other_card, suit), True)
        self.assertIs(game.is_over(other_card, card, suit), False)

    def assert_neither(self, game, text, other, led):
        card, other_card, suit = read_card(text), read_card(other), "abcd".index(led)
        self.assertIs(game.is_over(card, other_card, suit), False)
        self.assertIs(game.is_over(other_card, card, suit), False)

    def test_both_of_one_suit(self):
        game = Game(Table(FULL), 1)
        self.assert_over(game, "a7", "a4", "a")
        self.assert_over(game, "a6", "a5", "a")
        self.assert_over(game, "b4", "b7", "a")
        self.assert_over(game, "b6", "b8", "a")
        self.assert_over(game, "b6", "b8", "b")
        self.assert_neither(game, "c8", "c1", "a")
        self.assert_neither(game, "a8", "a1", "b")

    def test_of_unlike_suits(self):
        game = Game(Table(FULL), 1)
        self.assert_over(game, "b1", "a8", "a")
        self.assert_over(game, "b1", "c8", "a")
        self.assert_over(game, "b1", "a8", "b")
        self.assert_over(game, "a1", "c8", "a")
        self.assert_over(game, "d1", "a8", "d")
        self.assert_neither(game, "c8", "d1", "a")
        self.assert_neither(game, "c1", "a8", "b")

    def test_without_trumps(self):
        game = Game(Table(FULL))
        self.assert_over(game, "b7", "b4", "b")
        self.assert_over(game, "b1", "a8", "b")
        self.assert_neither(game, "a8", "c1", "b")
        self.assert_neither(game, "a8", "a1", "b")

    def test_no_card_goes_over_itself(self):
        for trump in (None, 0, 1, 2, 3):
            game = Game(Table(FULL), trump)
            for card, led in itertools.product(range(32), range(4)):
                self.assertIs(game.is_over(card, card, led), False)

    def test_all_pairs(self):
        for text in (FULL, SMALL, "pack 3x5 seats 4 duty cut plain 54321 trump 24135"):
            for trump in (None, 0, 1, 2, 3):
                game = Game(Table(text), trump)
                pack = [card for card in range(32) if game.pack() & 2 ** card]
                for card, other, led in itertools.product(pack, pack, range(4)):
                    self.assertIs(game.is_over(card, other, led), goes_over(game, card, other, led))

    def test_a_height_that_the_order_has_not_is_not_the_stronger(self):
        game = Game(Table(SMALL), 0)
        self.assertIs(game.is_over(7, 0, 0), False)
        self.assertIs(game.is_over(0, 7, 0), False)

    def winner_of(self, game, text):
        return game.winner(tuple([read_card(word) for word in text.split(" ")]))

    def test_known_winners(self):
        game = Game(Table(FULL), 1)
        for text, number in [("a1", 0), ("c8", 0), ("b3", 0), ("a1 a2 a3 a4", 3), ("a5 a8 a1 a7", 1),
                             ("a1 c8 d8 a2", 3), ("a1 c8 d8 c7", 0), ("a8 b1 a7 a6", 1), ("a8 b8 b6 b5", 2),
                             ("b7 b4 b5", 1), ("b4 b7 a8 c8", 0), ("d1 a8 c8", 0)]:
            self.assertEqual(self.winner_of(game, text), number)
        plain = Game(Table(FULL))
        for text, number in [("a1 b8 c8 d8", 0), ("a1 b8 a2 d8", 2), ("b7 b4 b5", 0)]:
            self.assertEqual(self.winner_of(plain, text), number)

    def test_the_winner_goes_over_all_others(self):
        for text in (SMALL, "pack 3x2 seats 4 duty free plain 21 trump 12"):
            for trump in (None, 0, 1, 2, 3):
                game = Game(Table(text), trump)
                pack = [card for card in range(32) if game.pack() & 2 ** card]
                for length in range(1, game.table.seats + 1):
                    for trick in itertools.permutations(pack, length):
                        told = game.winner(trick)
                        self.assertIs(type(told), int)
                        led = trick[0] // 8
                        others = trick[:told] + trick[told + 1:]
                        self.assertTrue(all(goes_over(game, trick[told], other, led) for other in others))

    def test_a_trump_that_the_pack_has_not(self):
        table = Table(SMALL)
        foreign, plain = Game(table, 3), Game(table)
        self.assertEqual(foreign.pack(), plain.pack())
        for card, other in itertools.permutations((0, 1, 2, 8, 9, 10), 2):
            for led in (0, 1):
                self.assertEqual(foreign.is_over(card, other, led), plain.is_over(card, other, led))
            self.assertEqual(foreign.winner((card, other)), plain.winner((card, other)))
            self.assertEqual(foreign.may(bits(card, 2), (other,)), plain.may(bits(card, 2), (other,)))

    def test_two_games_of_one_table_by_turns(self):
        table = Table("pack 4x8 seats 4 duty cut plain 12345678 trump 87654321")
        spades, clubs, plain = Game(table, 0), Game(table, 3), Game(table)
        trick = (read_card("b3"), read_card("a2"), read_card("d5"), read_card("a6"))
        hand = bits(read_card("a1"), read_card("c1"), read_card("d1"))
        for turn in range(3):
            self.assertEqual([game.trump for game in (spades, clubs, plain)], [0, 3, None])
            self.assertEqual([game.winner(trick) for game in (spades, clubs, plain)], [1, 2, 0])
            self.assertEqual([game.is_over(0, 1, 0) for game in (spades, clubs, plain)], [True, False, False])
            self.assertEqual([game.may(hand, (8,)) for game in (spades, clubs, plain)], [bits(0), bits(24), hand])
            self.assertEqual(spades.table.order(True), [7, 6, 5, 4, 3, 2, 1, 0])

    def test_games_of_two_tables_by_turns(self):
        first = Game(Table(table_text(2, 3, 3, "follow", "123", "123")), 0)
        second = Game(Table(table_text(3, 2, 4, "free", "21", "21")), 0)
        for turn in range(3):
            self.assertEqual((first.pack(), second.pack()), (7 + 7 * 2 ** 8, 3 + 3 * 2 ** 8 + 3 * 2 ** 16))
            self.assertEqual((first.winner((0, 1)), second.winner((0, 1))), (1, 0))
            self.assertEqual((first.may(bits(1, 8), (0,)), second.may(bits(1, 8), (0,))), (bits(1), bits(1, 8)))
            self.assertEqual((first.table.duty(), second.table.duty()), ("follow", "free"))


if __name__ == "__main__":
    unittest.main()

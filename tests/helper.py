"""What several of the tests use."""

import random
import unittest

from trickproof.packs import read_card
from trickproof.tables import Game, Table

NO_TEXTS = [0, 1, 31, -1, 10 ** 59, None, True, False, [], ["a1"], ["a", "1"], (), ("a1",), ("a", "1"), {}]
DUTY_WORDS = ["free", "follow", "cut", "beat"]


def bits(*cards):
    return sum(2 ** card for card in cards)


def cards_of(hand):
    """A hand's cards, rising, told in another way than the program does."""
    return [card for card, sign in enumerate(reversed(bin(hand)[2:])) if sign == "1"]


def read_cards(text):
    return [read_card(word) for word in text.split()]


def place_of(deal, lead=0, trick=""):
    """A place of hands, parted like a deal's; each hand is a row of cards, - where there are none."""
    hands = tuple(bits(*read_cards(hand.replace("-", ""))) for hand in deal.split(" / "))
    return (hands, lead, tuple(read_cards(trick)))


def game_of(duty="follow", trump=None, seats=4, pack="4x8", plain=None, trumps=None):
    rising = "12345678"[:int(pack[2])]
    return Game(Table(f"pack {pack} seats {seats} duty {duty} plain {plain or rising} trump {trumps or rising}"), trump)


def some_game(chance, seats=None, duty=None):
    """A game of any kind, with shuffled orders."""
    heights = chance.randint(4, 8)
    orders = ["".join(chance.sample("12345678"[:heights], heights)) for number in range(2)]
    return game_of(duty or chance.choice(DUTY_WORDS), chance.choice([None, 0, 1, 2, 3]), seats or chance.choice([3, 4]),
                   f"{chance.randint(2, 4)}x{heights}", orders[0], orders[1])


def some_deal(chance, game, size):
    """A deal of hands of that size, or of as many cards as the pack has for each."""
    table = game.table
    pack = [8 * suit + height for suit in range(table.suits) for height in range(table.heights)]
    size = min(size, len(pack) // table.seats)
    cards = chance.sample(pack, size * table.seats)
    return [bits(*cards[seat * size:(seat + 1) * size]) for seat in range(table.seats)]


def some_place(chance, game, size, steps):
    """A place that so many moves lead to, or the one at the end."""
    place = (tuple(some_deal(chance, game, size)), chance.randrange(game.table.seats), ())
    for step in range(steps):
        if any(place[0]):
            place = behind_by_words(game, place, chance.choice(moves_by_words(game, place)))[0]
    return place


def standing(game, card, led):
    """Where a card stands in a trick; the card that stands highest takes it."""
    suit, height = divmod(card, 8)
    if suit == game.trump:
        return 200 + game.table.order(True).index(height)
    if suit == led:
        return 100 + game.table.order(False).index(height)
    return 0


def moves_by_words(game, place):
    """The moves at a place, by the words of the document, over lists of cards."""
    hands, lead, trick = place
    cards = cards_of(hands[(lead + len(trick)) % len(hands)])
    if not cards or not trick or game.table.duty() == "free":
        return cards
    led = trick[0] // 8
    choice = [card for card in cards if card // 8 == led]
    if not choice and game.table.duty() != "follow":
        choice = [card for card in cards if card // 8 == game.trump]
    choice = choice or cards
    if game.table.duty() == "beat":
        highest = max(standing(game, card, led) for card in trick)
        choice = [card for card in choice if standing(game, card, led) > highest] or choice
    return choice


def behind_by_words(game, place, card):
    """The place behind a card and the taker, by the words of the document."""
    hands, lead, trick = place
    seats = len(hands)
    seat = (lead + len(trick)) % seats
    hands = tuple(hand - 2 ** card if number == seat else hand for number, hand in enumerate(hands))
    trick = trick + (card,)
    if len(trick) < seats:
        return (hands, lead, trick), None
    taker = (lead + max(range(seats), key=lambda number: standing(game, trick[number], trick[0] // 8))) % seats
    return (hands, taker, ()), taker


def seeded(number):
    """Chances that are the same in each run."""
    return random.Random(number)


class RefusalCase(unittest.TestCase):
    def assert_refused(self, refusal, ask, thing):
        """The very class is asked for, so that no other refusal passes for it."""
        with self.subTest(repr(thing)):
            with self.assertRaises(ValueError) as caught:
                ask(thing)
            self.assertIs(type(caught.exception), refusal)

    def refusal_of(self, ask, *things):
        """What an asking is refused with."""
        with self.assertRaises(ValueError) as caught:
            ask(*things)
        return caught.exception

"""What several of the tests use."""

import random
import unittest

from trickproof.packs import read_card
from trickproof.tables import Game, Table

NO_TEXTS = [0, 1, 31, -1, 10 ** 59, None, True, False, [], ["a1"], ["a", "1"], (), ("a1",), ("a", "1"), {}]
DUTY_WORDS = ["free", "follow", "cut", "beat"]


def bits(*cards):
    return sum(2 ** card for card in cards)


def cards_of(hand):
    """A hand's cards, rising, told in another way than the program does."""
    return [card for card, sign in enumerate(reversed(bin(hand)[2:])) if sign == "1"]


def read_cards(text):
    return [read_card(word) for word in text.split()]


def place_of(deal, lead=0, trick=""):
    """A place of hands, parted like a deal's; each hand is a row of cards, - where there are none."""
    hands = tuple(bits(*read_cards(hand.replace("-", ""))) for hand in deal.split(" / "))
    return (hands, lead, tuple(read_cards(trick)))


def game_of(duty="follow", trump=None, seats=4, pack="4x8", plain=None, trumps=None):
    rising = "12345678"[:int(pack[2])]
    return Game(Table(f"pack {pack} seats {seats} duty {duty} plain {plain or rising} trump {trumps or rising}"), trump)


def some_game(chance, seats=None, duty=None, trumps=(None, 0, 1, 2, 3)):
    """A game of any kind, with shuffled orders."""
    heights = chance.randint(4, 8)
    orders = ["".join(chance.sample("12345678"[:heights], heights)) for number in range(2)]
    return game_of(duty or chance.choice(DUTY_WORDS), chance.choice(trumps), seats or chance.choice([3, 4]),
                   f"{chance.randint(2, 4)}x{heights}", orders[0], orders[1])


def some_deal(chance, game, size):
    """A deal of hands of that size, or of as many cards as the pack has for each."""
    table = game.table
    pack = [8 * suit + height for suit in range(table.suits) for height in range(table.heights)]
    size = min(size, len(pack) // table.seats)
    cards = chance.sample(pack, size * table.seats)
    return [bits(*cards[seat * size:(seat + 1) * size]) for seat in range(table.seats)]


def some_place(chance, game, size, steps):
    """A place that so many moves lead to, or the one at the end."""
    place = (tuple(some_deal(chance, game, size)), chance.randrange(game.table.seats), ())
    for step in range(steps):
        if any(place[0]):
            place = behind_by_words(game, place, chance.choice(moves_by_words(game, place)))[0]
    return place


def places_of_all_kinds(chance, size):
    """Games and places: of three and four seats, each duty, a trump or none, each number of cards in the trick."""
    for seats in (3, 4):
        for duty in DUTY_WORDS:
            for trumps in ([None], [0, 1]):
                for steps in range(2 * seats):
                    game = some_game(chance, seats, duty, trumps)
                    yield game, some_place(chance, game, size, steps)


def standing(game, card, led):
    """Where a card stands in a trick; the card that stands highest takes it."""
    suit, height = divmod(card, 8)
    if suit == game.trump:
        return 200 + game.table.order(True).index(height)
    if suit == led:
        return 100 + game.table.order(False).index(height)
    return 0


def moves_by_words(game, place):
    """The moves at a place, by the words of the document, over lists of cards."""
    hands, lead, trick = place
    cards = cards_of(hands[(lead + len(trick)) % len(hands)])
    if not cards or not trick or game.table.duty() == "free":
        return cards
    led = trick[0] // 8
    choice = [card for card in cards if card // 8 == led]
    if not choice and game.table.duty() != "follow":
        choice = [card for card in cards if card // 8 == game.trump]
    choice = choice or cards
    if game.table.duty() == "beat":
        highest = max(standing(game, card, led) for card in trick)
        choice = [card for card in choice if standing(game, card, led) > highest] or choice
    return choice


def behind_by_words(game, place, card):
    """The place behind a card and the taker, by the words of the document."""
    hands, lead, trick = place
    seats = len(hands)
    seat = (lead + len(trick)) % seats
    hands = tuple(hand - 2 ** card if number == seat else hand for number, hand in enumerate(hands))
    trick = trick + (card,)
    if len(trick) < seats:
        return (hands, lead, trick), None
    taker = (lead + max(range(seats), key=lambda number: standing(game, trick[number], trick[0] // 8))) % seats
    return (hands, taker, ()), taker


def is_place_by_words(game, place):
    """What a place is by the words of the document, over lists of cards."""
    hands, lead, trick = place
    seats = game.table.seats
    if len(hands) != seats or len(trick) >= seats or lead not in range(seats):
        return False
    everywhere = [card for hand in hands for card in cards_of(hand)] + list(trick)
    if len(set(everywhere)) != len(everywhere):
        return False
    if any(card // 8 >= game.table.suits or card % 8 >= game.table.heights for card in everywhere):
        return False
    sizes = [len(cards_of(hand)) for hand in hands]
    for number in range(len(trick)):
        sizes[(lead + number) % seats] += 1
    return len(set(sizes)) == 1


def told_by_words(game, place, side):
    """The pairs by the words of the document: all ways of playing on, each gone through anew."""
    pairs = []
    for card in moves_by_words(game, place) if any(place[0]) else []:
        behind, taker = behind_by_words(game, place, card)
        won = taker is not None and is_of_side(side, taker)
        pairs.append((card, count_by_words(game, behind, side) + won))
    return pairs


def count_by_words(game, place, side):
    numbers = [number for card, number in told_by_words(game, place, side)]
    if not numbers:
        return 0
    seat = (place[1] + len(place[2])) % len(place[0])
    return max(numbers) if is_of_side(side, seat) else min(numbers)


def places_from(game, place):
    """All places to which moves lead from a place, and that place."""
    found, waiting = {place}, [place]
    while waiting:
        at = waiting.pop()
        for card in moves_by_words(game, at):
            behind = behind_by_words(game, at, card)[0]
            if behind not in found:
                found.add(behind)
                waiting.append(behind)
    return found


def is_of_side(side, seat):
    return side // 2 ** seat % 2 == 1


def row_right_by_words(game, side, paper, row):
    """What a right row is by the words of the document, the whole paper being looked through for each move."""
    place, need, card = row
    if not is_place_by_words(game, place):
        return False
    hands, lead, trick = place
    if need < 1 or need > max(len(cards_of(hand)) for hand in hands):
        return False

    def covers(move):
        behind, taker = behind_by_words(game, place, move)
        rest = need - 1 if taker is not None and is_of_side(side, taker) else need
        return rest <= 0 or any(other[0] == behind and other[1] >= rest for other in paper)

    choice = moves_by_words(game, place)
    if is_of_side(side, (lead + len(trick)) % len(hands)):
        return card in choice and covers(card)
    return card is None and all(covers(move) for move in choice)


def holds_by_words(game, side, paper, place, need):
    """What a paper that holds is by the words of the document."""
    if not all(row_right_by_words(game, side, paper, row) for row in paper):
        return False
    return need <= 0 or any(row[0] == place and row[1] >= need for row in paper)


def seeded(number):
    """Chances that are the same in each run."""
    return random.Random(number)


class RefusalCase(unittest.TestCase):
    def assert_refused(self, refusal, ask, thing):
        """The very class is asked for, so that no other refusal passes for it."""
        with self.subTest(repr(thing)):
            with self.assertRaises(ValueError) as caught:
                ask(thing)
            self.assertIs(type(caught.exception), refusal)

    def refusal_of(self, ask, *things):
        """What an asking is refused with."""
        with self.assertRaises(ValueError) as caught:
            ask(*things)
        return caught.exception

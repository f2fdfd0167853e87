"""Places with their suits or their seats turned, and a side turned alike."""

from trickproof.bits import HEIGHTS, cards_in, hand_of
from trickproof.counts import has_seat


def cards_turned(cards, turn):
    """The list of what the cards become."""
    return [HEIGHTS * turn[card // HEIGHTS] + card % HEIGHTS for card in cards]


def suits_turned(place, turn):
    """The place in which each suit is what the list tells for it."""
    hands = [hand_of(cards_turned(cards_in(hand), turn)) for hand in place[0]]
    return (tuple(hands), place[1], tuple(cards_turned(place[2], turn)))


def seats_turned(place, steps):
    """The place in which all that was of a seat is of the seat so many steps round from it."""
    seats = len(place[0])
    hands = [place[0][(seat - steps) % seats] for seat in range(seats)]
    return (tuple(hands), (place[1] + steps) % seats, place[2])


def side_turned(side, steps, seats):
    """The side of the seats so many steps round from the side's seats."""
    # A side is made of its seats as a hand is of its cards.
    return hand_of([(seat + steps) % seats for seat in range(seats) if has_seat(side, seat)])

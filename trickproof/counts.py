"""Counts: how many tricks a side makes at a place, all cards open, however well both sides play."""

from trickproof.bits import many
from trickproof.errors import TooMany
from trickproof.places import behind, moves, turn_at

MOST_CARDS = 12


def has_seat(side, seat):
    """True where the seat is of the side."""
    return ((side >> seat) & 1) == 1


def gain(side, taker):
    """The tricks, 1 or 0, that a side has of a move with that taker, who is None where no trick was filled."""
    return 1 if taker is not None and has_seat(side, taker) else 0


class Reckoning:
    """The counts of one side in one game; each place is counted once, however often moves lead to it."""

    def __init__(self, game, side):
        self.game = game
        self.side = side
        self.known = {}

    def made_by(self, place, card):
        """The tricks that the side makes from the place on where that card is played there."""
        step = behind(self.game, place, card)
        return gain(self.side, step[1]) + self.made_at(step[0])

    def pairs(self, place):
        """The list of the moves, rising, each with the tricks that the side makes by it."""
        return [(card, self.made_by(place, card)) for card in moves(self.game, place)]

    def made_at(self, place):
        """The tricks that the side makes from the place on."""
        if place not in self.known:
            self.known[place] = self.choice(place, self.pairs(place))
        return self.known[place]

    def choice(self, place, pairs):
        """The number of the pairs that the seat in turn chooses, 0 where it is nobody's turn."""
        if len(pairs) == 0:
            return 0
        numbers = [number for card, number in pairs]
        return max(numbers) if has_seat(self.side, turn_at(self.game, place)) else min(numbers)


def refuse_too_many(place):
    """TooMany where the hands have more cards than are counted."""
    if sum([many(hand) for hand in place[0]]) > MOST_CARDS:
        raise TooMany("at most twelve cards in the hands are counted")


def told(game, place, side):
    """The list of the pairs (card, number), move by move as they rise; TooMany where there are too many cards."""
    refuse_too_many(place)
    return Reckoning(game, side).pairs(place)


def count(game, place, side):
    """The tricks, of those left, that the side makes; TooMany where there are too many cards."""
    refuse_too_many(place)
    return Reckoning(game, side).made_at(place)


def best(game, place, side):
    """The list of the moves, rising, by which the count is made; TooMany where there are too many cards."""
    refuse_too_many(place)
    reckoning = Reckoning(game, side)
    pairs = reckoning.pairs(place)
    made = reckoning.choice(place, pairs)
    return [card for card, number in pairs if number == made]

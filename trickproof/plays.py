"""Plays: a deal played card by card, from its beginning to its end."""

from trickproof.bits import cards_in
from trickproof.errors import BadPlay, NoPlay
from trickproof.places import behind, is_place, moves, turn_at


class Play:
    """A game's deal with the seat that leads, and what has been played of it."""

    def __init__(self, game, deal, lead):
        beginning = (tuple(deal), lead, ())
        if not is_place(game, beginning):
            raise NoPlay("the deal is none of the game's, or the lead is no seat")
        self.game = game
        self.beginning = beginning
        self.now = beginning
        self.cards = []
        self.takers = []

    def broken_rule(self, seat, card):
        """The first rule that forbids the seat to put the card, None where it may."""
        in_turn = self.turn()
        if in_turn is None:
            return "over"
        if seat != in_turn:
            return "turn"
        if card not in cards_in(self.now[0][seat]):
            return "held"
        if card not in self.may():
            return self.game.table.duty()
        return None

    def put(self, seat, card):
        """The seat puts the card; the taker of the trick that it fills, else None. BadPlay where it may not."""
        rule = self.broken_rule(seat, card)
        if rule is not None:
            raise BadPlay(rule, len(self.takers))
        step = behind(self.game, self.now, card)
        self.now = step[0]
        self.cards.append(card)
        if step[1] is not None:
            self.takers.append(step[1])
        return step[1]

    def place(self):
        """The place where the play stands."""
        return self.now

    def turn(self):
        """The seat in turn, None where all cards are played."""
        return turn_at(self.game, self.now)

    def may(self):
        """The list of the cards that the seat in turn may put."""
        return moves(self.game, self.now)

    def taken(self):
        """The list of the numbers of tricks that each seat took."""
        return [self.takers.count(seat) for seat in range(self.game.table.seats)]

    def played(self):
        """The list of the cards played, in order."""
        return list(self.cards)

    def dealt(self):
        """The deal, a list of hands."""
        return list(self.beginning[0])

    def begun_by(self):
        """The seat that led first."""
        return self.beginning[1]

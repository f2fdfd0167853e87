"""Papers: rows of places, needs and cards that show that a side makes so many tricks."""

from trickproof.counts import Reckoning, gain, has_seat, refuse_too_many
from trickproof.errors import TooMuch
from trickproof.places import behind, moves, turn_at


class Writing:
    """A paper of one side in one game, as it is written; no need in it is above the count of its place."""

    def __init__(self, game, side):
        self.game = game
        self.side = side
        self.reckoning = Reckoning(game, side)
        # The cards of the rows by (place, need), so that no two rows have both alike.
        self.cards_of_rows = {}

    def card_for(self, place, need):
        """The least move at a turn of the side by which it makes the need."""
        return [card for card, number in self.reckoning.pairs(place) if number >= need][0]

    def write(self, place, need):
        """Writes the row of the place and the need, and all rows that it hangs on."""
        if need <= 0 or (place, need) in self.cards_of_rows:
            return
        if has_seat(self.side, turn_at(self.game, place)):
            card = self.card_for(place, need)
            self.cards_of_rows[(place, need)] = card
            self.write_behind(place, card, need)
            return
        self.cards_of_rows[(place, need)] = None
        for card in moves(self.game, place):
            self.write_behind(place, card, need)

    def write_behind(self, place, card, need):
        """Writes what the move must have behind it to cover the need."""
        step = behind(self.game, place, card)
        self.write(step[0], need - gain(self.side, step[1]))

    def rows(self):
        """The list of the rows, in the order in which they were written."""
        return [(key[0], key[1], card) for key, card in self.cards_of_rows.items()]


def paper(game, side, place, need):
    """The list of rows by which the side makes the need; TooMany for too many cards, TooMuch above the count."""
    refuse_too_many(place)
    if need <= 0:
        return []
    writing = Writing(game, side)
    made = writing.reckoning.made_at(place)
    if need > made:
        raise TooMuch(made)
    writing.write(place, need)
    return writing.rows()

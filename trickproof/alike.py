"""Alike moves: those between which no card of another seat or of the trick stands."""

from trickproof.bits import HEIGHTS, cards_in
from trickproof.places import moves, turn_at


def cards_of_others(game, place):
    """The list of the cards in the trick and in the hands of all seats but the one in turn."""
    in_turn = turn_at(game, place)
    cards = list(place[2])
    for seat, hand in enumerate(place[0]):
        if seat != in_turn:
            cards.extend(cards_in(hand))
    return cards


def groups_of_suit(game, suit, choice, others):
    """The list of the groups of the suit's moves, found by a walk from its weakest card to its strongest."""
    groups = [[]]
    for height in game.table.order(suit == game.trump):
        card = HEIGHTS * suit + height
        # Only a card of the others parts moves: the seat's own ones never meet each other in a trick.
        if card in others:
            groups.append([])
        if card in choice:
            groups[-1].append(card)
    return [sorted(group) for group in groups if len(group) > 0]


def alike(game, place):
    """The list of the groups of alike moves, each rising, sorted by their first cards."""
    choice = moves(game, place)
    others = cards_of_others(game, place)
    groups = []
    for suit in range(game.table.suits):
        groups.extend(groups_of_suit(game, suit, choice, others))
    return sorted(groups)

"""Hands as whole numbers: the sum of 2 ** card over their cards."""

HEIGHTS = 8
LOWEST_SUIT = 255


def cards_in(hand):
    """The list of a hand's cards, rising."""
    cards = []
    card = 0
    while hand > 0:
        if (hand & 1) == 1:
            cards.append(card)
        hand = hand >> 1
        card = card + 1
    return cards


def hand_of(cards):
    """The hand of a list of cards; one that comes twice is in it once."""
    hand = 0
    for card in cards:
        hand = hand | (1 << card)
    return hand


def many(hand):
    """How many cards a hand has."""
    number = 0
    while hand > 0:
        # This takes the lowest card away, so the walk is as long as there are cards.
        hand = hand & (hand - 1)
        number = number + 1
    return number


def of_suit(hand, suit):
    """The hand of a hand's cards of one suit."""
    return hand & (LOWEST_SUIT << (HEIGHTS * suit))

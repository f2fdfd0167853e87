"""The four duties: which cards of a hand may be played to a trick that has begun."""

from trickproof.bits import HEIGHTS, cards_in, hand_of, of_suit
from trickproof.errors import NoTable
from trickproof.rules import Rule


def of_led_suit(hand, trick):
    """The hand of a hand's cards of the suit that was led."""
    return of_suit(hand, trick[0] // HEIGHTS)


def followed_or_cut(game, hand, trick):
    """The cards of the led suit, else the trumps, else all."""
    followers = of_led_suit(hand, trick)
    if followers > 0:
        return followers
    if game.trump is None:
        return hand
    trumps = of_suit(hand, game.trump)
    return trumps if trumps > 0 else hand


def goes_over_all(game, card, trick):
    """True where the card goes over each card of the trick."""
    led = trick[0] // HEIGHTS
    return all([game.is_over(card, other, led) for other in trick])


class Free(Rule):
    """All cards may be played."""

    def word(self):
        """The duty's word."""
        return "free"

    def allowed(self, game, hand, trick):
        """The hand of the cards that may be played."""
        return hand


class Follow(Rule):
    """The led suit is followed where that can be done."""

    def word(self):
        """The duty's word."""
        return "follow"

    def allowed(self, game, hand, trick):
        """The hand of the cards that may be played."""
        followers = of_led_suit(hand, trick)
        return followers if followers > 0 else hand


class Cut(Rule):
    """The led suit is followed, else a trump is played, where that can be done."""

    def word(self):
        """The duty's word."""
        return "cut"

    def allowed(self, game, hand, trick):
        """The hand of the cards that may be played."""
        return followed_or_cut(game, hand, trick)


class Beat(Rule):
    """As by cut, and over all cards of the trick where that can be done."""

    def word(self):
        """The duty's word."""
        return "beat"

    def allowed(self, game, hand, trick):
        """The hand of the cards that may be played."""
        choice = followed_or_cut(game, hand, trick)
        beaters = hand_of([card for card in cards_in(choice) if goes_over_all(game, card, trick)])
        return beaters if beaters > 0 else choice


def duty_of(word):
    """The duty of a word; NoTable where there is none."""
    for duty in (Free(), Follow(), Cut(), Beat()):
        if duty.word() == word:
            return duty
    raise NoTable("a duty's word is free, follow, cut or beat")

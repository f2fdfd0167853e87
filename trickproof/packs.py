"""Cards, hands and deals, written as texts and read again."""

from trickproof.bits import HEIGHTS, cards_in, hand_of, many, of_suit
from trickproof.errors import NoCard, NoDeal, NoHand

LETTERS = "abcd"
FIGURES = "12345678"
EMPTY_HAND = "-"


def card_text(card):
    """The text of a card: its suit's letter and its height's figure."""
    return LETTERS[card // HEIGHTS] + FIGURES[card % HEIGHTS]


def read_card(text):
    """The card of a text; NoCard where it is no card's."""
    if not isinstance(text, str):
        raise NoCard("a card is read from a text")
    if len(text) != 2:
        raise NoCard("a card's text has two signs")
    suit = LETTERS.find(text[0])
    height = FIGURES.find(text[1])
    if suit < 0 or height < 0:
        raise NoCard("a card's text is a letter from a to d and a figure from 1 to 8")
    return HEIGHTS * suit + height


def suit_word(hand, suit):
    """The word of a hand's cards of one suit."""
    figures = [FIGURES[card % HEIGHTS] for card in cards_in(of_suit(hand, suit))]
    return LETTERS[suit] + "".join(figures)


def hand_text(hand):
    """The text of a hand: its suits' words, or - where it is empty."""
    words = [suit_word(hand, suit) for suit in range(len(LETTERS)) if of_suit(hand, suit) > 0]
    if len(words) == 0:
        return EMPTY_HAND
    return " ".join(words)


def cards_named(text):
    """The cards that the words of a text name, in whatever order; NoCard where one names none."""
    cards = []
    for word in text.split(" "):
        for figure in word[1:]:
            cards.append(read_card(word[0] + figure))
    return cards


def read_hand(text):
    """The hand of a text; NoHand where it is no hand's."""
    if not isinstance(text, str):
        raise NoHand("a hand is read from a text")
    try:
        hand = hand_of(cards_named(text))
    except NoCard:
        raise NoHand("a word of the text names what is no card") from None
    # A hand has one text alone: any other one that names its cards is not written as it should be.
    if hand_text(hand) != text:
        raise NoHand("a hand is written suit by suit, the figures rising, single blanks between")
    return hand


def deal_text(deal):
    """The text of a deal: its hands' texts."""
    texts = [hand_text(hand) for hand in deal]
    return " / ".join(texts)


def is_apart(hands):
    """True where no card is in two of the hands."""
    seen = 0
    for hand in hands:
        if (seen & hand) != 0:
            return False
        seen = seen | hand
    return True


def is_level(hands):
    """True where all the hands, one or more, have as many cards."""
    return all([many(hand) == many(hands[0]) for hand in hands])


def read_deal(text):
    """The deal of a text, a list of three or four hands; NoDeal where it is no deal's."""
    if not isinstance(text, str):
        raise NoDeal("a deal is read from a text")
    parts = text.split(" / ")
    if len(parts) not in (3, 4):
        raise NoDeal("a deal has three or four hands")
    try:
        hands = [read_hand(part) for part in parts]
    except NoHand:
        raise NoDeal("a hand of the deal is not written as hands are") from None
    if not is_apart(hands):
        raise NoDeal("a card is in two hands")
    if not is_level(hands):
        raise NoDeal("the hands have unlike numbers of cards")
    return hands

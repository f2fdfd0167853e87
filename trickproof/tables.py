"""Tables, told by a text, and games: a table with a trump suit or none."""

from trickproof.bits import HEIGHTS, hand_of
from trickproof.duties import duty_of
from trickproof.errors import NoTable
from trickproof.packs import FIGURES, LETTERS

MARKS = ("pack", "seats", "duty", "plain", "trump")


def words_behind_marks(text):
    """The words of a table's text that stand behind its marks; NoTable where the marks are others."""
    if not isinstance(text, str):
        raise NoTable("a table is told by a text")
    words = text.split(" ")
    if len(words) != 2 * len(MARKS) or tuple(words[0::2]) != MARKS:
        raise NoTable("a table's text is pack SxH seats N duty WORD plain ORDER trump ORDER")
    return words[1::2]


def read_size(word):
    """The numbers of suits and of heights that a word like 4x8 tells."""
    if len(word) != 3 or word[1] != "x":
        raise NoTable("a pack is told as SxH")
    suits = FIGURES.find(word[0]) + 1
    heights = FIGURES.find(word[2]) + 1
    if suits == 0 or suits > len(LETTERS) or heights == 0:
        raise NoTable("a pack has one to four suits and one to eight heights")
    return (suits, heights)


def read_seats(word):
    """The number of seats that a word tells."""
    if word not in ("3", "4"):
        raise NoTable("a table has three or four seats")
    return int(word)


def read_order(word, heights):
    """The heights in the order that a word tells, the weakest first."""
    if sorted(word) != list(FIGURES[:heights]):
        raise NoTable("an order has each figure of the pack's heights once")
    return tuple([FIGURES.find(figure) for figure in word])


def is_later(order, height, other):
    """True where both heights stand in the order, the first one behind the other."""
    if height not in order or other not in order:
        return False
    return order.index(height) > order.index(other)


class Table:
    """How many suits, heights and seats there are, the duty, and the orders of the suits."""

    def __init__(self, text):
        words = words_behind_marks(text)
        size = read_size(words[0])
        self.suits = size[0]
        self.heights = size[1]
        self.seats = read_seats(words[1])
        self.duty_word = duty_of(words[2]).word()
        self.plain_order = read_order(words[3], self.heights)
        self.trump_order = read_order(words[4], self.heights)
        self.written = text

    def text(self):
        """The text that tells the table."""
        return self.written

    def duty(self):
        """The word of the table's duty."""
        return self.duty_word

    def order(self, is_trump):
        """The list of the heights of a suit, trump or not, the weakest first."""
        return list(self.trump_order if is_trump else self.plain_order)


class Game:
    """A table with a trump suit, perhaps one that the pack has not, or with none."""

    def __init__(self, table, trump=None):
        self.table = table
        self.trump = trump

    def pack(self):
        """The hand of all cards of the game."""
        cards = []
        for suit in range(self.table.suits):
            cards.extend([HEIGHTS * suit + height for height in range(self.table.heights)])
        return hand_of(cards)

    def is_stronger(self, card, other):
        """True where a card is stronger than another one of its suit, by the suit's order."""
        order = self.table.order(card // HEIGHTS == self.trump)
        return is_later(order, card % HEIGHTS, other % HEIGHTS)

    def is_over(self, card, other, led):
        """True where a card goes over another one in a trick of that led suit."""
        suit = card // HEIGHTS
        if suit == other // HEIGHTS:
            return suit in (self.trump, led) and self.is_stronger(card, other)
        if suit == self.trump:
            return True
        return suit == led and other // HEIGHTS != self.trump

    def winner(self, trick):
        """The number, from 0, of the card that goes over all others of the trick."""
        led = trick[0] // HEIGHTS
        highest = 0
        for number, card in enumerate(trick):
            if self.is_over(card, trick[highest], led):
                highest = number
        return highest

    def may(self, hand, trick):
        """The hand of the cards that may be played to the trick from a hand that is not empty."""
        if len(trick) == 0:
            return hand
        return duty_of(self.table.duty()).allowed(self, hand, trick)

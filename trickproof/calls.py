"""Calls, read from texts and written again, and which bid is above which."""

from trickproof.errors import NoCall
from trickproof.packs import FIGURES

WORDS = ("pass", "double", "again")
# The strains rise in the order of these letters, so no trumps stand above all suits.
STRAINS = "abcdn"
NO_TRUMPS = 4


def read_call(text):
    """The call of a text: a text, or (tricks, strain) for a bid; NoCall where it is none."""
    if not isinstance(text, str):
        raise NoCall("a call is read from a text")
    if text in WORDS:
        return text
    if len(text) != 2:
        raise NoCall("a call is pass, double, again or a bid")
    tricks = FIGURES.find(text[0]) + 1
    rank = STRAINS.find(text[1])
    if tricks == 0 or rank < 0:
        raise NoCall("a bid is a figure from 1 to 8 and a letter a to d or n")
    return (tricks, None if rank == NO_TRUMPS else rank)


def rank_of(strain):
    """Which of the strains it is, in their order, from 0."""
    return NO_TRUMPS if strain is None else strain


def call_text(call):
    """The text of a call."""
    if isinstance(call, str):
        return call
    return FIGURES[call[0] - 1] + STRAINS[rank_of(call[1])]


def above(bid, other):
    """True where a bid is above another one, both of them (tricks, strain)."""
    return (bid[0], rank_of(bid[1])) > (other[0], rank_of(other[1]))

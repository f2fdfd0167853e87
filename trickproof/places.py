"""Places, tuples (hands, lead, trick): whose turn it is, the moves, and the place behind a card."""

from trickproof.bits import cards_in, many
from trickproof.packs import is_apart, is_level


def is_seat(game, seat):
    """True where the game has that seat."""
    return seat >= 0 and seat < game.table.seats


def seat_round(game, lead, steps):
    """The seat so many steps round the table from the lead."""
    return (lead + steps) % game.table.seats


def hands_with_trick(game, place):
    """The list of the hands with the cards that they played to the trick."""
    hands = list(place[0])
    for number, card in enumerate(place[2]):
        seat = seat_round(game, place[1], number)
        hands[seat] = hands[seat] | (1 << card)
    return hands


def is_place(game, place):
    """True where it is a place of the game."""
    hands = list(place[0])
    trick = place[2]
    if len(hands) != game.table.seats or len(trick) >= game.table.seats or not is_seat(game, place[1]):
        return False
    parts = hands + [1 << card for card in trick]
    pack = game.pack()
    if not is_apart(parts) or any([(part | pack) != pack for part in parts]):
        return False
    return is_level(hands_with_trick(game, place))


def turn_at(game, place):
    """The seat in turn, None where all hands are empty."""
    if left(place) == 0:
        return None
    return seat_round(game, place[1], len(place[2]))


def moves(game, place):
    """The list of the cards that the seat in turn may play, rising; empty where it is nobody's turn."""
    seat = turn_at(game, place)
    if seat is None:
        return []
    return cards_in(game.may(place[0][seat], place[2]))


def left(place):
    """The number of tricks not yet full."""
    return max([many(hand) for hand in place[0]])


def behind(game, place, card):
    """The place behind a card of the seat in turn, and the taker of the trick that it fills, else None."""
    seat = seat_round(game, place[1], len(place[2]))
    hands = list(place[0])
    hands[seat] = hands[seat] ^ (1 << card)
    trick = place[2] + (card,)
    if len(trick) < game.table.seats:
        return ((tuple(hands), place[1], trick), None)
    taker = seat_round(game, place[1], game.winner(trick))
    return ((tuple(hands), taker, ()), taker)

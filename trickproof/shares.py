"""The ways to share out cards to seats, numbered in the order of whom each card goes to."""

from trickproof.bits import many
from trickproof.errors import NoShare


def choices(things, taken):
    """How many ways there are to take some of so many things."""
    # Taking some and leaving the others are the same choice, so the shorter walk is enough.
    fewer = min(taken, things - taken)
    number = 1
    for step in range(fewer):
        number = number * (things - step) // (step + 1)
    return number


def ways(sizes):
    """How many ways there are to share out as many cards as the sizes come to."""
    number = 1
    things = 0
    for size in sizes:
        things = things + size
        number = number * choices(things, size)
    return number


def ways_behind(left, seat):
    """How many ways go on where the next card goes to the seat; left tells what each seat still gets."""
    if left[seat] == 0:
        return 0
    rest = list(left)
    rest[seat] = rest[seat] - 1
    return ways(rest)


def share(cards, sizes, number):
    """The list of hands of the way of that number; NoShare where there is none."""
    if sum(sizes) != len(cards):
        raise NoShare("the sizes do not come to as many as the cards")
    if number < 0 or number >= ways(sizes):
        raise NoShare("there is no way of that number")
    hands = [0] * len(sizes)
    left = list(sizes)
    for card in cards:
        seat = 0
        passed = ways_behind(left, seat)
        while number >= passed:
            number = number - passed
            seat = seat + 1
            passed = ways_behind(left, seat)
        hands[seat] = hands[seat] | (1 << card)
        left[seat] = left[seat] - 1
    return hands


def seat_with(hands, card):
    """The seat that has the card, None where none has it."""
    for seat, hand in enumerate(hands):
        if ((hand >> card) & 1) == 1:
            return seat
    return None


def number_of(cards, hands):
    """The number of the way in which the cards are shared out so."""
    left = [many(hand) for hand in hands]
    number = 0
    for card in cards:
        seat = seat_with(hands, card)
        number = number + sum([ways_behind(left, lower) for lower in range(seat)])
        left[seat] = left[seat] - 1
    return number

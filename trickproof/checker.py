"""Papers gone through row by row: whether a row is right in a paper, and whether a paper holds."""

from trickproof.counts import gain, has_seat
from trickproof.places import behind, is_place, left, moves, turn_at


def is_whole(thing):
    """True where it is a whole number, so an int that is no truth."""
    return isinstance(thing, int) and not isinstance(thing, bool)


def are_from_zero_on(things):
    """True where it is a tuple of whole numbers from 0 on."""
    return isinstance(things, tuple) and all([is_whole(thing) and thing >= 0 for thing in things])


def is_formed_place(thing):
    """True where it has the form of a place, whatever the game."""
    if not isinstance(thing, tuple) or len(thing) != 3:
        return False
    return are_from_zero_on(thing[0]) and is_whole(thing[1]) and are_from_zero_on(thing[2])


def is_formed_row(thing):
    """True where it has the form of a row."""
    if not isinstance(thing, tuple) or len(thing) != 3:
        return False
    return is_formed_place(thing[0]) and is_whole(thing[1]) and (thing[2] is None or is_whole(thing[2]))


def greatest_needs(paper):
    """The dict of the greatest need that the paper has for each of its places."""
    needs = {}
    for row in paper:
        # Anybody may have written the paper, so what stands in it need not even be a row.
        if is_formed_row(row):
            needs[row[0]] = max(row[1], needs.get(row[0], 0))
    return needs


def covers(game, side, needs, place, card, need):
    """True where the move at the place covers the need, by the greatest needs of the paper."""
    step = behind(game, place, card)
    rest = need - gain(side, step[1])
    return rest <= 0 or needs.get(step[0], 0) >= rest


def is_right(game, side, needs, row):
    """True where the row is right, by the greatest needs of the paper."""
    if not is_formed_row(row) or not is_place(game, row[0]):
        return False
    place = row[0]
    need = row[1]
    if need < 1 or need > left(place):
        return False
    choice = moves(game, place)
    if has_seat(side, turn_at(game, place)):
        return row[2] in choice and covers(game, side, needs, place, row[2], need)
    return row[2] is None and all([covers(game, side, needs, place, card, need) for card in choice])


def row_right(game, side, paper, row):
    """True where the row is right in the paper."""
    return is_right(game, side, greatest_needs(paper), row)


def holds(game, side, paper, place, need):
    """True where all rows of the paper are right and it shows the need at the place."""
    needs = greatest_needs(paper)
    for row in paper:
        if not is_right(game, side, needs, row):
            return False
    return need <= 0 or needs.get(place, 0) >= need

"""The refusals of the program, all straight under TrickError."""


class TrickError(ValueError):
    """Any refusal."""


class NoCard(TrickError):
    """What was read is no card's text."""


class NoHand(TrickError):
    """What was read is no hand's text."""


class NoDeal(TrickError):
    """What was read is no deal's text."""


class NoShare(TrickError):
    """The cards can't be shared out so, or there is no way of that number."""


class NoTable(TrickError):
    """What was read tells no table."""


class NoCall(TrickError):
    """What was read is no call."""


class NotNow(TrickError):
    """A call that does not stand; rule tells why."""

    def __init__(self, rule):
        self.rule = rule


class NoPlay(TrickError):
    """No play can be made of this."""


class BadPlay(TrickError):
    """A card that may not be put; rule tells why, trick how many tricks were full."""

    def __init__(self, rule, trick):
        self.rule = rule
        self.trick = trick


class TooMany(TrickError):
    """There are more cards, or more ways, than are gone through."""


class TooMuch(TrickError):
    """More is asked for than the side makes; count tells what it makes."""

    def __init__(self, count):
        self.count = count


class NoRecord(TrickError):
    """What was handed in is no record of a play."""


class NoView(TrickError):
    """What was handed in is no view of a deal."""


class NoSheet(TrickError):
    """There is no sheet of that word."""


class NoRow(TrickError):
    """What the desk was told is no row."""


class NotYet(TrickError):
    """What the row asks for does not stand."""

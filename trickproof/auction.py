"""Callings: the seats call in turn, and what they come to is a contract."""

from trickproof.calls import above, read_call
from trickproof.errors import NotNow


def side_of(seats, seat):
    """The side of a seat, the sum of 2 ** seat over its seats."""
    if seats == 4:
        return (1 << seat) | (1 << ((seat + 2) % seats))
    return 1 << seat


class Auction:
    """The calling of three or four seats, begun by the first one."""

    def __init__(self, seats, first=0):
        self.seats = seats
        self.caller = first
        # How many passes stand behind the last call that was no pass.
        self.passes = 0
        # The pairs (seat, bid); all are kept, for a contract asks who bid its strain first.
        self.bids = []
        self.times = 1

    def is_done(self):
        """True where the calling is over."""
        # Behind a bid one seat has made the last call that was no pass, and only the others pass.
        needed = self.seats if len(self.bids) == 0 else self.seats - 1
        return self.passes >= needed

    def turn(self):
        """The seat that calls next, None where the calling is over."""
        return None if self.is_done() else self.caller

    def is_own_bid(self):
        """True where the last bid is of the caller's own side."""
        return side_of(self.seats, self.bids[-1][0]) == side_of(self.seats, self.caller)

    def may_double(self):
        """True where double stands."""
        return len(self.bids) > 0 and self.times == 1 and not self.is_own_bid()

    def may_again(self):
        """True where again stands."""
        return len(self.bids) > 0 and self.times == 2 and self.is_own_bid()

    def broken_rule(self, call):
        """The first rule by which the call does not stand, None where it does."""
        if self.is_done():
            return "over"
        if isinstance(call, tuple) and len(self.bids) > 0 and not above(call, self.bids[-1][1]):
            return "low"
        if call == "double" and not self.may_double():
            return "double"
        if call == "again" and not self.may_again():
            return "again"
        return None

    def say(self, text):
        """The next seat's call; NoCall where it is none, NotNow where it does not stand."""
        call = read_call(text)
        rule = self.broken_rule(call)
        if rule is not None:
            raise NotNow(rule)
        self.passes = self.passes + 1 if call == "pass" else 0
        if call == "double":
            self.times = 2
        if call == "again":
            self.times = 4
        if isinstance(call, tuple):
            self.bids.append((self.caller, call))
            self.times = 1
        self.caller = (self.caller + 1) % self.seats

    def first_to_name(self, strain, side):
        """The first seat of the side that bid the strain."""
        for seat, bid in self.bids:
            if bid[1] == strain and side_of(self.seats, seat) == side:
                return seat
        return None

    def contract(self):
        """The contract as it stands, (tricks, strain, seat, times), None ahead of the first bid."""
        if len(self.bids) == 0:
            return None
        last = self.bids[-1]
        tricks = last[1][0]
        strain = last[1][1]
        return (tricks, strain, self.first_to_name(strain, side_of(self.seats, last[0])), self.times)

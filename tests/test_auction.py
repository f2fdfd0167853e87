"""Callings: turns, what stands and when they are over [12], and the contract [13]."""

import unittest

from tests.helper import NO_TEXTS, RefusalCase, seeded
from trickproof.auction import Auction, side_of
from trickproof.errors import NoCall, NotNow

BIDS = [figure + letter for figure in "12345678" for letter in "abcdn"]
CALLS = ["pass", "double", "again"] + BIDS


def called(seats, text, first=0):
    """A calling in which the words of the text have been said."""
    auction = Auction(seats, first)
    for word in text.split():
        auction.say(word)
    return auction


def state(auction):
    return (auction.turn(), auction.is_done(), auction.contract())


class Words:
    """A calling told by the words of the document, over all that was said so far."""

    def __init__(self, seats, first, said):
        self.seats = seats
        self.callers = [(first + number) % seats for number in range(len(said) + 1)]
        self.said = said
        self.bids = [number for number, text in enumerate(said) if text in BIDS]
        self.since = said[self.bids[-1] + 1:] if self.bids else []

    def side(self, seat):
        return seat % 2 if self.seats == 4 else seat

    def over(self):
        if not self.bids:
            return len(self.said) == self.seats
        return len(self.since) >= self.seats - 1 and set(self.said[-(self.seats - 1):]) == {"pass"}

    def own(self):
        return self.side(self.callers[self.bids[-1]]) == self.side(self.callers[-1])

    def rule(self, text):
        if self.over():
            return "over"
        if text in BIDS and self.bids and BIDS.index(text) <= BIDS.index(self.said[self.bids[-1]]):
            return "low"
        if text == "double" and not (self.bids and not self.own() and "double" not in self.since):
            return "double"
        if text == "again":
            doubled = "double" in self.since and "again" not in self.since
            if not (self.bids and self.own() and doubled):
                return "again"
        return None

    def state(self):
        turn = None if self.over() else self.callers[-1]
        if not self.bids:
            return (turn, self.over(), None)
        last = self.said[self.bids[-1]]
        side = self.side(self.callers[self.bids[-1]])
        seat = [self.callers[number] for number in self.bids
                if self.said[number][1] == last[1] and self.side(self.callers[number]) == side][0]
        times = 4 if "again" in self.since else 2 if "double" in self.since else 1
        strain = None if last[1] == "n" else "abcd".index(last[1])
        return (turn, self.over(), (int(last[0]), strain, seat, times))


class AuctionCase(RefusalCase):
    def assert_not_now(self, auction, text, rule):
        before = state(auction)
        refusal = self.refusal_of(auction.say, text)
        self.assertIs(type(refusal), NotNow)
        self.assertEqual(refusal.rule, rule)
        self.assertIs(type(refusal.rule), str)
        self.assertEqual(state(auction), before)


class TurnTest(AuctionCase):
    def test_round_and_round_from_the_first(self):
        for seats in (3, 4):
            for first in range(seats):
                auction = Auction(seats, first)
                for number, bid in enumerate(BIDS):
                    self.assertEqual(auction.turn(), (first + number) % seats)
                    self.assertIsNone(auction.say(bid))

    def test_the_first_may_be_left_out(self):
        for seats in (3, 4):
            self.assertEqual(Auction(seats).turn(), 0)
            self.assertEqual(Auction(seats, first=2).turn(), 2)

    def test_kinds(self):
        auction = called(4, "1a")
        self.assertIs(type(auction.turn()), int)
        self.assertIs(auction.is_done(), False)
        self.assertIs(called(3, "pass pass pass").is_done(), True)
        self.assertIsNone(auction.say("pass"))


class OverTest(AuctionCase):
    def test_all_pass_at_the_beginning(self):
        for seats in (3, 4):
            for first in range(seats):
                auction = Auction(seats, first)
                for number in range(seats):
                    self.assertEqual(state(auction), ((first + number) % seats, False, None))
                    auction.say("pass")
                self.assertEqual(state(auction), (None, True, None))

    def test_passes_behind_a_call(self):
        for seats, text in [(3, "1a"), (4, "1a"), (3, "1a double"), (4, "1a double"), (3, "1a double pass again"),
                            (4, "1a double again"), (3, "pass pass 2n"), (4, "pass pass pass 2n"),
                            (4, "1a pass pass 1b"), (4, "1a pass pass double"), (3, "1a pass double")]:
            auction = called(seats, text)
            for number in range(seats - 1):
                self.assertIs(auction.is_done(), False, (seats, text, number))
                auction.say("pass")
            self.assertIs(auction.is_done(), True, (seats, text))
            self.assertIsNone(auction.turn())

    def test_nothing_stands_when_it_is_over(self):
        for auction in (called(3, "pass pass pass"), called(4, "pass pass pass pass"), called(4, "1a pass pass pass"),
                        called(3, "8n double pass pass"), called(3, "pass 1a double pass again pass pass")):
            for text in CALLS:
                self.assert_not_now(auction, text, "over")


class StandsTest(AuctionCase):
    def test_bids_must_be_above_the_last(self):
        for number, bid in enumerate(BIDS):
            auction = called(4, bid)
            for other in BIDS[:number + 1]:
                self.assert_not_now(auction, other, "low")
            for other in BIDS[number + 1:]:
                self.assertIsNone(called(4, bid).say(other))

    def test_a_double_does_not_make_a_low_bid_stand(self):
        self.assert_not_now(called(4, "2b double"), "2b", "low")
        self.assert_not_now(called(4, "2b double pass"), "2a", "low")

    def test_double(self):
        for seats in (3, 4):
            self.assert_not_now(Auction(seats), "double", "double")
            self.assert_not_now(called(seats, "pass pass"), "double", "double")
            self.assertEqual(called(seats, "1a double").contract(), (1, 0, 0, 2))
            self.assert_not_now(called(seats, "1a double"), "double", "double")
            self.assert_not_now(called(seats, "1a double pass"), "double", "double")
            self.assertEqual(called(seats, "1a double 1b double").contract(), (1, 1, 2, 2))
        self.assert_not_now(called(4, "1a pass"), "double", "double")
        self.assertEqual(called(4, "1a pass pass double").contract(), (1, 0, 0, 2))
        self.assertEqual(called(3, "1a pass double").contract(), (1, 0, 0, 2))
        self.assert_not_now(called(4, "1a double again"), "double", "double")
        self.assert_not_now(called(4, "1a double again pass pass"), "double", "double")

    def test_again(self):
        for seats in (3, 4):
            self.assert_not_now(Auction(seats), "again", "again")
            self.assert_not_now(called(seats, "1a"), "again", "again")
        self.assert_not_now(called(4, "1a pass"), "again", "again")
        self.assertEqual(called(4, "1a double again").contract(), (1, 0, 0, 4))
        self.assertEqual(called(4, "1a double pass pass again").contract(), (1, 0, 0, 4))
        self.assert_not_now(called(4, "1a double pass"), "again", "again")
        self.assert_not_now(called(4, "1a double again pass"), "again", "again")
        self.assert_not_now(called(3, "1a double"), "again", "again")
        self.assert_not_now(called(3, "1a pass double pass"), "double", "double")
        self.assertEqual(called(3, "1a double pass again").contract(), (1, 0, 0, 4))
        self.assertEqual(called(3, "1a pass double again").contract(), (1, 0, 0, 4))

    def test_a_bid_is_not_doubled(self):
        self.assertEqual(called(4, "1a double again 1b").contract(), (1, 1, 3, 1))
        self.assert_not_now(called(4, "1a double 1b pass"), "again", "again")

    def test_what_is_no_call(self):
        for auction in (Auction(3), called(4, "8n"), called(4, "1a pass pass pass"), called(3, "pass pass pass")):
            before = state(auction)
            for thing in NO_TEXTS + ["", " ", "1", "a1", "0a", "9a", "1e", "1A", "Pass", "pass ", " 1a", "redouble",
                                     (1, 0), (1, None), ["pass"], ("pass",)]:
                self.assert_refused(NoCall, auction.say, thing)
                self.assertEqual(state(auction), before)

    def test_what_is_refused_changes_nothing(self):
        auction = Auction(4)
        for text, wrong in [("pass", "double"), ("1b", "again"), ("pass", "1a"), ("pass", "1b"), ("double", "again"),
                            ("pass", "double"), ("pass", "0a"), ("again", "double"), ("pass", "again"), ("pass", "x"),
                            ("pass", "1b")]:
            before = state(auction)
            self.assertIs(type(self.refusal_of(auction.say, wrong)), NoCall if wrong in ("0a", "x") else NotNow)
            self.assertEqual(state(auction), before)
            auction.say(text)
        self.assertEqual(state(auction), (None, True, (1, 1, 1, 4)))


class ContractTest(AuctionCase):
    def test_none_ahead_of_the_first_bid(self):
        for text in ("", "pass", "pass pass", "pass pass pass"):
            self.assertIsNone(called(4, text).contract())

    def test_it_is_told_at_each_time(self):
        auction = Auction(4)
        for text, contract in [("pass", None), ("1a", (1, 0, 1, 1)), ("double", (1, 0, 1, 2)), ("pass", (1, 0, 1, 2)),
                               ("pass", (1, 0, 1, 2)), ("again", (1, 0, 1, 4)), ("3n", (3, None, 2, 1)),
                               ("pass", (3, None, 2, 1)), ("pass", (3, None, 2, 1)), ("pass", (3, None, 2, 1))]:
            auction.say(text)
            self.assertEqual(auction.contract(), contract)
        self.assertIs(type(auction.contract()), tuple)
        self.assertIs(auction.is_done(), True)

    def test_the_first_seat_of_its_side_that_bid_the_strain(self):
        self.assertEqual(called(4, "1a pass 2a").contract(), (2, 0, 0, 1))
        self.assertEqual(called(4, "1a 2a 3a 4a 5b 6a").contract(), (6, 0, 1, 1))
        self.assertEqual(called(4, "1b pass 2a pass 3a").contract(), (3, 0, 2, 1))
        self.assertEqual(called(4, "1n 2n pass 3n").contract(), (3, None, 1, 1))
        self.assertEqual(called(4, "1a 1b pass 2a").contract(), (2, 0, 3, 1))
        self.assertEqual(called(3, "1a 2a 3a").contract(), (3, 0, 2, 1))
        self.assertEqual(called(3, "1a 2a 3b 4a").contract(), (4, 0, 0, 1))

    def test_first_is_the_earlier_one_not_the_lower_one(self):
        self.assertEqual(called(4, "1a pass 2a", first=2).contract(), (2, 0, 2, 1))
        self.assertEqual(called(4, "1a pass 2a", first=3).contract(), (2, 0, 3, 1))

    def test_each_bid(self):
        for number, bid in enumerate(BIDS):
            tricks, strain = 1 + number // 5, (0, 1, 2, 3, None)[number % 5]
            self.assertEqual(called(3, "pass " + bid).contract(), (tricks, strain, 1, 1))


class AllCallingsTest(AuctionCase):
    def assert_alike(self, seats, first, said, texts):
        words = Words(seats, first, said)
        auction = called(seats, " ".join(said), first)
        self.assertEqual(state(auction), words.state(), (seats, first, said))
        stand = []
        for text in texts:
            rule = words.rule(text)
            if rule is None:
                stand.append(text)
            else:
                self.assert_not_now(auction, text, rule)
        return stand

    def go_through(self, seats, first, said, texts):
        number = 1
        for text in self.assert_alike(seats, first, said, texts):
            number += self.go_through(seats, first, said + [text], texts)
        return number

    def test_all_callings_of_two_bids(self):
        self.assertGreater(self.go_through(3, 0, [], ["pass", "double", "again", "1a", "1n"]), 500)
        self.assertGreater(self.go_through(4, 3, [], ["pass", "double", "again", "1b", "2b"]), 1000)

    def test_some_callings_of_many_bids(self):
        chance = seeded(12)
        for number in range(60):
            seats = chance.choice([3, 4])
            first, said = chance.randrange(seats), []
            stand = self.assert_alike(seats, first, said, CALLS)
            while stand:
                said.append(chance.choice(stand[:6] + ["pass"]))
                stand = self.assert_alike(seats, first, said, CALLS)


class ByTurnsTest(AuctionCase):
    def test_two_callings_each_tell_their_own(self):
        one, other = Auction(4), Auction(3, 1)
        one.say("1a")
        self.assertEqual(state(other), (1, False, None))
        other.say("2n")
        one.say("double")
        self.assertEqual(state(one), (2, False, (1, 0, 0, 2)))
        self.assertEqual(state(other), (2, False, (2, None, 1, 1)))
        other.say("pass")
        other.say("pass")
        self.assertEqual(state(one), (2, False, (1, 0, 0, 2)))
        self.assertEqual(state(other), (None, True, (2, None, 1, 1)))
        one.say("again")
        self.assertEqual(state(one), (3, False, (1, 0, 0, 4)))

    def test_alike_callings_by_turns(self):
        texts = "pass 1a pass 2a double pass again pass pass pass".split()
        for seats in (3, 4):
            pair = (Auction(seats), Auction(seats))
            for number, text in enumerate(texts):
                for auction in pair:
                    words = Words(seats, 0, texts[:number])
                    self.assertEqual(state(auction), words.state())
                    if words.rule(text) is None:
                        auction.say(text)
                if Words(seats, 0, texts[:number]).rule(text) is not None:
                    break


class SideTest(unittest.TestCase):
    def test_sides(self):
        self.assertEqual([side_of(4, seat) for seat in range(4)], [5, 10, 5, 10])
        self.assertEqual([side_of(3, seat) for seat in range(3)], [1, 2, 4])


if __name__ == "__main__":
    unittest.main()

"""When a row is right in a paper, and when a paper holds [20]; no paper that holds says too much [3]."""

import copy
import unittest

from tests.helper import (count_by_words, game_of, holds_by_words, is_of_side, moves_by_words, place_of,
                          places_from, places_of_all_kinds, row_right_by_words, seeded, some_place)
from trickproof.checker import holds, row_right
from trickproof.counts import count
from trickproof.packs import read_card
from trickproof.papers import paper as told_paper
from trickproof.places import is_place, left

A1, A2, A3, B1, B2, B3 = [read_card(text) for text in ("a1", "a2", "a3", "b1", "b2", "b3")]

# Seat 0 leads its highest card, to which both others follow.
THREE = game_of(seats=3, pack="2x4")
FIRST = place_of("a3 b1 / a1 b2 / a2 b3")
SECOND = place_of("b1 / a1 b2 / a2 b3", 0, "a3")
THIRD = place_of("b1 / b2 / a2 b3", 0, "a3 a1")
ROWS = [(FIRST, 1, A3), (SECOND, 1, None), (THIRD, 1, None)]

# Seat 0 has a trump for a trick that seat 2 has led; seat 1 follows.
FOUR = game_of("cut", 1, 4, "4x8")
CUT = place_of("b5 c1 / a1 c2 / c3 / c4", 2, "a2 a8")
CUT_NEXT = place_of("c1 / a1 c2 / c3 / c4", 2, "a2 a8 b5")
CUT_ROWS = [(CUT, 1, read_card("b5")), (CUT_NEXT, 1, None)]


class RowCase(unittest.TestCase):
    def assert_right(self, row, rows=ROWS, game=THREE, side=1):
        self.assertIs(row_right(game, side, rows, row), True, row)
        self.assertIs(row_right_by_words(game, side, rows, row), True, row)

    def assert_wrong(self, row, rows=ROWS, game=THREE, side=1):
        """It is not right, and no paper that has it holds."""
        self.assertIs(row_right(game, side, rows, row), False, row)
        self.assertIs(row_right_by_words(game, side, rows, row), False, row)
        for mixed in (rows + [row], [row] + rows, [row]):
            for place in [row[0]] + [other[0] for other in rows[:1]]:
                for need in (row[1], 1, 0, -1):
                    self.assertIs(holds(game, side, mixed, place, need), False, row)


class RightTest(RowCase):
    def test_the_rows_of_papers_that_hold(self):
        for row in ROWS:
            self.assert_right(row)
        for row in CUT_ROWS:
            self.assert_right(row, CUT_ROWS, FOUR)
            self.assert_right(row, CUT_ROWS, FOUR, 5)

    def test_the_row_need_not_be_in_the_paper(self):
        self.assert_right(ROWS[0], ROWS[1:])
        self.assert_right(ROWS[1], ROWS[2:])
        self.assert_right(ROWS[2], [])

    def test_other_rows_need_not_be_right(self):
        for other in [(FIRST, 1, None), (SECOND, 9, A1), (((1, 1), 7, ()), 1, None), (THIRD, -5, 1000)]:
            for row in ROWS:
                self.assert_right(row, [other] + ROWS + [other])

    def test_a_greater_need_covers_too(self):
        self.assert_right(ROWS[0], [(SECOND, 2, None)])
        self.assert_right(ROWS[0], [(SECOND, 10 ** 59, None)])
        self.assert_right(ROWS[0], [(SECOND, 2, None), (SECOND, 0, None)])
        self.assert_right(ROWS[0], [(SECOND, -3, None), (SECOND, 1, None), (SECOND, -2, None)])

    def test_a_trick_taken_is_taken_off_the_need(self):
        last = place_of("- / - / a2", 0, "a3 a1")
        self.assert_right((last, 1, None), [])
        self.assert_right((last, 1, A2), [], side=5)
        self.assert_wrong((last, 1, None), [(last, 1, None)], side=2)
        two = place_of("b3 / b1 / a2 b2", 0, "a3 a1")
        behind = place_of("b3 / b1 / b2", 0)
        self.assert_right((two, 2, None), [(behind, 1, B3)])
        self.assert_wrong((two, 2, None), [(two, 1, None)])


class NoPlaceTest(RowCase):
    def test_no_place_of_the_game(self):
        for place in [((), 0, ()), ((1, 2), 0, ()), ((1, 2, 4, 8), 0, ()), ((0, 0, 0), 0, (0, 1, 2)),
                      ((1, 2, 2 ** 4), 0, ()), ((1, 2, 2 ** 16), 0, ()), ((0, 1, 2), 0, (1000,)), ((0, 1, 2), 0, (4,)),
                      ((1, 1, 2), 0, ()), ((1, 2, 1), 0, ()), ((0, 1, 2), 0, (0,)), ((0, 0, 1), 0, (2, 2)),
                      ((1, 2, 4), 3, ()), ((1, 2, 4), -1, ()), ((4, 2, 1), 10 ** 59, ()),
                      ((1, 2, 0), 0, ()), ((4, 3, 8), 0, ()), ((1, 2, 4), 0, (8,)), ((0, 0, 0), 0, (8,)),
                      ((1, 2, 10 ** 60 - 1), 0, ())]:
            self.assertFalse(is_place(THREE, place))
            for card in (None, 0, 1, 2):
                for side in (0, 1, 7):
                    self.assert_wrong((place, 1, card), side=side)

    def test_a_place_of_another_game(self):
        self.assert_wrong(CUT_ROWS[1])
        self.assert_wrong(ROWS[2], CUT_ROWS, FOUR)
        for game in (game_of(seats=3, pack="1x4"), game_of(seats=3, pack="2x2"), game_of(seats=4, pack="2x4")):
            self.assert_wrong(ROWS[2], ROWS, game)

    def test_a_paper_is_of_its_game(self):
        """By another order seat 0 does not take the trick."""
        self.assert_wrong(ROWS[2], ROWS, game_of(seats=3, pack="2x4", plain="3124"))
        self.assert_right(ROWS[2], ROWS, game_of(seats=3, pack="2x4", trumps="3124"))
        self.assert_wrong(ROWS[2], ROWS, game_of(seats=3, pack="2x4", trump=0, trumps="3124"))
        self.assert_right(CUT_ROWS[1], CUT_ROWS, game_of("cut", 1))
        self.assert_wrong(CUT_ROWS[1], CUT_ROWS, game_of("cut", 0))
        self.assert_wrong(CUT_ROWS[1], CUT_ROWS, game_of("cut"))
        # By the free duty seat 1 may play another card, for which there is no row.
        self.assert_wrong(ROWS[1], ROWS, game_of("free", seats=3, pack="2x4"))


class NeedTest(RowCase):
    def test_below_one(self):
        for need in (0, -1, -2, -10 ** 59):
            for place, need_row, card in ROWS:
                self.assert_wrong((place, need, card))
            self.assert_wrong((CUT_NEXT, need, None), CUT_ROWS, FOUR)

    def test_above_what_is_left(self):
        for place, need, card in ROWS:
            for above in (3, 4, 10 ** 59):
                rows = [(other, 10 ** 59, None) for other in places_from(THREE, FIRST)]
                self.assert_right((place, 2, card), rows)
                self.assert_wrong((place, above, card), rows)

    def test_where_nothing_is_left(self):
        for lead in range(3):
            for need in (1, 0, -1, 2):
                for card in (None, 0):
                    for side in (0, 1, 7):
                        self.assert_wrong((((0, 0, 0), lead, ()), need, card), side=side)

    def test_a_need_that_is_not_covered(self):
        for place, need, card in ROWS:
            self.assert_wrong((place, 2, card))
        self.assert_wrong((CUT, 2, read_card("b5")), CUT_ROWS, FOUR)
        self.assert_wrong((CUT_NEXT, 2, None), CUT_ROWS, FOUR)


class CardTest(RowCase):
    def test_no_move(self):
        for card in (A1, A2, B2, B3, 3, 4, 16, 31, 32, 1000, 1001, -1, -10 ** 59):
            self.assert_wrong((FIRST, 1, card), [(place, 2, None) for place in places_from(THREE, FIRST)])

    def test_a_card_that_the_duty_forbids(self):
        rows = [(place, 1, None) for place in places_from(game_of("free", 1), CUT)]
        self.assert_wrong((CUT, 1, read_card("c1")), rows, FOUR)
        self.assert_right((CUT, 1, read_card("c1")), rows, game_of("free", 1))
        self.assert_right((CUT, 1, read_card("c1")), rows, game_of("follow", 1))

    def test_a_move_that_does_not_cover_the_need(self):
        self.assert_wrong((FIRST, 1, B1))
        self.assert_wrong((FIRST, 1, A3), [ROWS[2]])
        self.assert_wrong((FIRST, 1, A3), [(SECOND, 0, None), ROWS[2]])
        self.assert_wrong((FIRST, 2, A3), ROWS)
        # The last card of a trick that another seat takes.
        place = place_of("b3 / b1 / a2 b2", 0, "a3 a1")
        self.assert_wrong((place, 1, A2), [], side=4)
        self.assert_right((place, 1, A2), [], side=5)

    def test_none_where_a_card_belongs(self):
        self.assert_wrong((FIRST, 1, None))
        self.assert_wrong((CUT, 1, None), CUT_ROWS, FOUR)
        for row in ROWS:
            self.assert_wrong((row[0], 1, None), side=7)

    def test_a_card_where_none_belongs(self):
        self.assert_wrong((SECOND, 1, A1))
        self.assert_wrong((THIRD, 1, A2))
        self.assert_wrong((CUT_NEXT, 1, A1), CUT_ROWS, FOUR)
        self.assert_wrong((THIRD, 1, 0))
        for row in ROWS:
            self.assert_wrong((row[0], 1, moves_by_words(THREE, row[0])[0]), side=0)

    def test_some_move_of_the_others_does_not_cover_the_need(self):
        place = place_of("b1 b4 / a1 a2 / b2 b3", 1)
        behind = [place_of("b1 b4 / a2 / b2 b3", 1, "a1"), place_of("b1 b4 / a1 / b2 b3", 1, "a2")]
        for needs, is_right in [((1, 1), True), ((1, 0), False), ((0, 1), False), ((2, 1), True), ((2, 2), True)]:
            rows = [(other, need, None) for other, need in zip(behind, needs)]
            (self.assert_right if is_right else self.assert_wrong)((place, 1, None), rows)
        for row in [(behind[0], 1, None), (behind[1], 1, None)]:
            self.assert_wrong((place, 1, None), [row])
        self.assert_wrong((place, 2, None), [(behind[0], 2, None), (behind[1], 1, None)])

    def test_the_sides_own_moves_need_not_all_cover(self):
        self.assert_right((FIRST, 1, A3))
        self.assert_wrong((FIRST, 1, B1))
        self.assert_wrong((FIRST, 1, None), side=0)


class FormTest(unittest.TestCase):
    def test_what_has_no_rows_form_is_not_right(self):
        hands = SECOND[0]
        places = [None, 0, "a1", (), (hands, 0), (hands, 0, (A3,), ()), list(SECOND), (list(hands), 0, (A3,)),
                  (hands, 0, [A3]), (hands, None, (A3,)), (hands, "0", (A3,)), (hands, False, (A3,)), (None, 0, (A3,)),
                  (hands, 0, None), ((hands[0], hands[1], None), 0, (A3,)), ((hands[0], hands[1], -1), 0, (A3,)),
                  (("a1", "a2", "a3"), 0, ()), ((1, 2, 4), 0, ("a1",)), (hands, 0, (-1,)), (hands, 0, (None,)),
                  ((True, 2, 4), 0, ()), ((2, 1, 4), 0, (True,)), ({}, 0, {})]
        forms = [None, 0, "row", (), [], {}, (SECOND,), (SECOND, 1), (SECOND, 1, None, None), [SECOND, 1, None],
                 (SECOND, None, None), (SECOND, "1", None), (SECOND, True, None), (SECOND, [1], None), (FIRST, 1, "a3"),
                 (FIRST, 1, [A3]), (FIRST, 1, (A3,)), (SECOND, 1, False), (SECOND, 1, "")]
        for row in forms + [(place, 1, None) for place in places]:
            with self.subTest(repr(row)):
                self.assertIs(row_right(THREE, 1, ROWS, row), False)
                for mixed in (ROWS + [row], [row] + ROWS, [row]):
                    for need in (-1, 0, 1):
                        self.assertIs(holds(THREE, 1, mixed, FIRST, need), False)
                for good in ROWS:
                    self.assertIs(row_right(THREE, 1, [row] + ROWS + [row], good), True)

    def test_a_truth_is_no_card(self):
        place = place_of("a2 b1 / a1 b2 / b3 b4")
        rows = [(other, 1, None) for other in places_from(THREE, place)]
        self.assertIs(row_right(THREE, 1, rows, (place, 1, 1)), True)
        self.assertIs(row_right(THREE, 1, rows, (place, 1, True)), False)
        self.assertIs(row_right(THREE, 1, rows, (place, True, 1)), False)


class HoldsTest(unittest.TestCase):
    def test_the_need_and_what_is_below_it(self):
        for need in (1, 0, -1, -10 ** 59):
            self.assertIs(holds(THREE, 1, ROWS, FIRST, need), True)
            self.assertIs(holds(FOUR, 1, CUT_ROWS, CUT, need), True)
        for need in (2, 3, 10 ** 59):
            self.assertIs(holds(THREE, 1, ROWS, FIRST, need), False)
            self.assertIs(holds(FOUR, 1, CUT_ROWS, CUT, need), False)

    def test_for_each_place_that_has_a_row(self):
        for row in ROWS:
            self.assertIs(holds(THREE, 1, ROWS, row[0], 1), True)
            self.assertIs(holds(THREE, 1, ROWS, row[0], 2), False)
        without = place_of("a3 b2 / a1 b1 / a2 b3")
        self.assertIs(holds(THREE, 1, ROWS, without, 1), False)
        self.assertIs(holds(THREE, 1, ROWS, without, 0), True)
        self.assertIs(holds(THREE, 1, ROWS, (FIRST[0], 1, ()), 1), False)

    def test_the_empty_paper(self):
        for place in (FIRST, SECOND, ((0, 0, 0), 2, ())):
            for side in (0, 1, 7):
                self.assertEqual([holds(THREE, side, [], place, need) for need in (-2, -1, 0, 1, 2)],
                                 [True, True, True, False, False])

    def test_each_row_is_asked_for(self):
        for number in range(3):
            rows = ROWS[:number] + ROWS[number + 1:]
            for need in (1, 0):
                # Without the first row the others are right, but show nothing of the first place.
                self.assertIs(holds(THREE, 1, rows, FIRST, need), number == 0 and need == 0)
        self.assertIs(holds(THREE, 1, ROWS[1:], SECOND, 1), True)
        self.assertIs(holds(THREE, 1, ROWS[2:], THIRD, 1), True)

    def test_the_rows_order_and_rows_that_come_twice(self):
        for rows in (ROWS[::-1], ROWS[1:] + ROWS[:1], ROWS + ROWS, [ROWS[2], ROWS[0], ROWS[1], ROWS[2]]):
            self.assertIs(holds(THREE, 1, rows, FIRST, 1), True)
            self.assertIs(holds(THREE, 1, rows, FIRST, 2), False)

    def test_rows_of_other_plays(self):
        other = place_of("a4 / a1 / a2", 0)
        rows = [(other, 1, read_card("a4")), (place_of("- / a1 / a2", 0, "a4"), 1, None),
                (place_of("- / - / a2", 0, "a4 a1"), 1, None)]
        self.assertIs(holds(THREE, 1, ROWS + rows, FIRST, 1), True)
        self.assertIs(holds(THREE, 1, ROWS + rows, other, 1), True)
        self.assertIs(holds(THREE, 1, ROWS + rows[:1], FIRST, 1), False)
        self.assertIs(holds(THREE, 1, ROWS + rows[:1], FIRST, 0), False)

    def test_a_paper_is_of_its_side(self):
        for side in range(8):
            self.assertIs(holds(THREE, side, ROWS, FIRST, 1), side == 1)
            self.assertIs(holds(THREE, side, ROWS[2:], THIRD, 1), side in (1, 3))
        for side in range(16):
            self.assertIs(holds(FOUR, side, CUT_ROWS, CUT, 1), is_of_side(side, 0) and not is_of_side(side, 1))

    def test_a_large_paper(self):
        rows = ROWS * 6667
        self.assertIs(holds(THREE, 1, rows, FIRST, 1), True)
        self.assertIs(row_right(THREE, 1, rows, ROWS[0]), True)
        rows.append((FIRST, 2, A3))
        self.assertIs(holds(THREE, 1, rows, FIRST, 1), False)

    def test_a_place_with_more_than_twelve_cards(self):
        game = game_of(seats=3)
        hands = (0b11111000, 0b111 | 3 << 8, 31 << 16)
        first = (hands, 0, ())
        rows = [(first, 1, 7), (((0b1111000,) + hands[1:], 0, (7,)), 1, None)]
        for card in (0, 1, 2):
            rows.append((((0b1111000, hands[1] ^ 1 << card, hands[2]), 0, (7, card)), 1, None))
        self.assertTrue(is_place(game, first))
        self.assertIs(holds(game, 1, rows, first, 1), True)
        self.assertIs(holds(game, 1, rows[:-1], first, 1), False)


class ChangedPapersTest(unittest.TestCase):
    def changed(self, chance, game, rows, others):
        """A paper that differs in one thing from the rows."""
        rows = list(rows)
        number = chance.randrange(len(rows))
        place, need, card = rows[number]
        change = chance.randrange(7)
        if change == 0:
            rows.pop(number)
        if change == 1:
            rows[number] = (place, need + chance.choice([-1, 1]), card)
        if change == 2:
            rows[number] = (place, need, chance.choice([None] + moves_by_words(game, place)))
        if change == 3:
            rows[number] = (place, need, chance.randrange(33))
        if change == 4:
            rows[number] = (chance.choice(others), need, card)
        if change == 5:
            other = chance.choice(others)
            rows.insert(number, (other, chance.randint(0, 2), chance.choice([None] + moves_by_words(game, other))))
        if change == 6:
            hands, lead, trick = place
            rows[number] = ((hands, (lead + 1) % len(hands), trick), need, card)
        return rows

    def test_by_words(self):
        chance = seeded(20)
        seen = {True: 0, False: 0}
        for game, place in list(places_of_all_kinds(chance, 2)) * 3:
            side = chance.randrange(2 ** game.table.seats)
            need = count(game, place, side)
            if need == 0:
                continue
            rows = told_paper(game, side, place, need)
            others = sorted(places_from(game, place))
            for attempt in range(12):
                rows_changed = self.changed(chance, game, rows, others)
                expected = holds_by_words(game, side, rows_changed, place, need)
                seen[expected] += 1
                self.assertIs(holds(game, side, rows_changed, place, need), expected)
                self.assertIs(holds(game, side, rows_changed, place, 0),
                              holds_by_words(game, side, rows_changed, place, 0))
                # The need is the count, so no paper holds for more.
                self.assertIs(holds(game, side, rows_changed, place, need + 1), False)
                for row in rows_changed[:8]:
                    self.assertIs(row_right(game, side, rows_changed, row),
                                  row_right_by_words(game, side, rows_changed, row))
        self.assertGreater(min(seen.values()), 100)


class GreatestPaperTest(unittest.TestCase):
    def greatest(self, game, side, place):
        """The paper of all rows that can be there, less those that are not right, as long as there are such."""
        rows = []
        for at in sorted(places_from(game, place)):
            seat = (at[1] + len(at[2])) % len(at[0])
            cards = moves_by_words(game, at) if is_of_side(side, seat) else [None]
            rows.extend((at, need, card) for need in range(1, left(at) + 1) for card in cards)
        while True:
            right = [row for row in rows if row_right(game, side, rows, row)]
            if right == rows:
                return rows
            rows = right

    def assert_greatest(self, game, side, place):
        rows = self.greatest(game, side, place)
        for at in sorted(places_from(game, place)):
            number = count_by_words(game, at, side)
            for need in range(-1, left(at) + 2):
                self.assertIs(holds(game, side, rows, at, need), need <= number, (at, side, need))

    def test_what_can_be_shown_is_the_count(self):
        """Whoever writes a paper that holds has only such rows, so no such paper says more than this one."""
        chance = seeded(3)
        for game, place in places_of_all_kinds(chance, 2):
            if len(places_from(game, place)) < 120:
                self.assert_greatest(game, chance.randrange(2 ** game.table.seats), place)

    def test_all_sides_of_one_place(self):
        chance = seeded(33)
        for seats, duty in [(3, "follow"), (4, "beat")]:
            game = game_of(duty, 1, seats)
            place = some_place(chance, game, 2, 1)
            for side in range(2 ** seats):
                self.assert_greatest(game, side, place)


class HandedInTest(unittest.TestCase):
    def test_what_is_handed_in_stays_as_it_was(self):
        rows = list(ROWS)
        kept = copy.deepcopy(rows)
        for row in ROWS:
            row_right(THREE, 1, rows, row)
        holds(THREE, 1, rows, FIRST, 1)
        self.assertEqual(rows, kept)
        self.assertEqual((THREE.table.text(), THREE.trump), (game_of(seats=3, pack="2x4").table.text(), None))

    def test_nothing_is_kept_of_a_paper(self):
        rows = list(ROWS)
        self.assertIs(holds(THREE, 1, rows, FIRST, 1), True)
        rows.pop()
        self.assertIs(holds(THREE, 1, rows, FIRST, 1), False)
        self.assertIs(row_right(THREE, 1, rows, ROWS[1]), False)
        rows.append(ROWS[2])
        self.assertIs(holds(THREE, 1, rows, FIRST, 1), True)

    def test_two_games_and_two_sides_by_turns(self):
        for number in range(3):
            self.assertIs(holds(THREE, 1, ROWS, FIRST, 1), True)
            self.assertIs(holds(game_of("free", seats=3, pack="2x4"), 1, ROWS, FIRST, 1), False)
            self.assertIs(holds(THREE, 2, ROWS, FIRST, 1), False)
            self.assertIs(holds(FOUR, 1, CUT_ROWS, CUT, 1), True)
            self.assertIs(holds(FOUR, 2, CUT_ROWS, CUT, 1), False)


if __name__ == "__main__":
    unittest.main()

"""`beside`: two boards put side by side ([11], and [1] of it)."""

import unittest

from relayroom.boards import beside, rests
from relayroom.errors import TooMany
from relayroom.judging import judged
from relayroom.words import looked
from rooms import (B0, B1, B2, B3, BUZZER, CHASE, HOLD, LATCH, LATE_BUZZER, OFF, ON, R0, R1, R2, R3, R4, R5, RIVALS,
                   RIVALS_AND_BUZZER, assert_refused, both, deepened, depth_of, either, graph, no, rest_of, rows,
                   told)

PAIRS = [
    (HOLD, 0, HOLD, 0), (LATCH, 2, LATCH, 2), (BUZZER, 0, [ON], 0), ([ON], 0, BUZZER, 0), (BUZZER, 0, BUZZER, 0),
    (RIVALS, 0, LATCH, 2), (LATCH, 2, RIVALS, 0), (RIVALS, 0, RIVALS, 0), (LATE_BUZZER, 0, [B0, no(R0)], 1),
    ([B0, both(R0, B1)], 2, [either(R0, B1), no(R0), both(R1, B0)], 2), (CHASE, 0, LATE_BUZZER, 0),
    ([either(R1, B0), no(R0), R1], 1, RIVALS_AND_BUZZER, 0), ([B0, R0, R1, R2, R3], 1, [both(B0, no(R0))], 1),
    ([B2], 3, [B0, R0, R1, R2, R3], 1),
]


class Numbering(unittest.TestCase):
    def assert_beside(self, board, one, buttons, other):
        answer = told(self, beside, one, buttons, other)
        self.assertIs(type(answer), list)
        for word in answer:
            self.assertIs(type(word), tuple)
        self.assertEqual(answer, board)

    def test_each_kind_of_word(self):
        self.assert_beside([ON, ON], [ON], 0, [ON])
        self.assert_beside([ON, OFF], [ON], 4, [OFF])
        self.assert_beside([R0, R1], [R0], 3, [R0])
        self.assert_beside([B0, B2], [B0], 2, [B0])
        self.assert_beside([no(R0), no(R1)], [no(R0)], 1, [no(R0)])
        self.assert_beside([both(R0, B0), both(R1, B1)], [both(R0, B0)], 1, [both(R0, B0)])
        self.assert_beside([either(B0, R0), either(B1, R1)], [either(B0, R0)], 1, [either(B0, R0)])

    def test_relays_go_on_behind_the_relays_and_buttons_behind_the_buttons(self):
        self.assert_beside([OFF, OFF, OFF, R3, B1, R5], [OFF] * 3, 1, [R0, B0, R2])
        self.assert_beside([OFF, R1, B3, R3], [OFF], 3, [R0, B0, R2])

    def test_no_buttons_of_the_first(self):
        self.assert_beside([R0, B0, B3], [R0], 0, [B0, B3])

    def test_buttons_of_the_first_that_no_word_has(self):
        self.assert_beside([ON, B3], [ON], 3, [B0])
        self.assert_beside([B0, B3], [B0], 3, [B0])

    def test_deep_contacts(self):
        for depth in range(2, 9):
            one, other = deepened(both(R0, B1), depth), deepened(both(R1, B1), depth)
            board = [one, R1, deepened(both(R3, B3), depth), OFF]
            self.assert_beside(board, [one, R1], 2, [other, OFF])
        word, moved_on = both(R0, either(B0, no(R1))), both(R2, either(B1, no(R3)))
        for kind in ("or", "and"):
            word, moved_on = (kind, word, no(word)), (kind, moved_on, no(moved_on))
        self.assertEqual(depth_of(word), 8)
        self.assert_beside([ON, B0, moved_on, moved_on], [ON, B0], 1, [word, word])

    def test_the_order_of_the_boards(self):
        self.assert_beside([R1, R0, no(R3), R2], [R1, R0], 0, [no(R1), R0])
        self.assert_beside([no(R1), R0, R3, R2], [no(R1), R0], 0, [R1, R0])

    def test_a_board_beside_itself(self):
        board = [either(R0, B0), no(R0)]
        self.assert_beside([either(R0, B0), no(R0), either(R2, B1), no(R2)], board, 1, board)

    def test_the_buttons_of_both_may_be_more_than_four(self):
        self.assert_beside([B3, ("button", 7)], [B3], 4, [B3])
        self.assert_beside([OFF, ("button", 4), R1], [OFF], 4, [B0, R0])

    def test_arguments_by_name(self):
        self.assertEqual(beside(one=[B0], buttons=1, other=[B0]), [B0, B1])


class Refused(unittest.TestCase):
    def test_all_numbers_of_relays(self):
        for first in range(1, 7):
            for second in range(1, 7):
                one, other = [R0] * first, [no(R0)] * second
                with self.subTest(first=first, second=second):
                    if first + second > 6:
                        assert_refused(self, TooMany, beside, one, 0, other)
                        assert_refused(self, TooMany, beside, one, 4, other)
                    else:
                        answer = told(self, beside, one, 2, other)
                        self.assertEqual(answer, one + [no(("relay", first))] * second)
                        self.assertEqual(looked(answer, 4), first + second)

    def test_three_and_three_and_three_and_four(self):
        self.assertEqual(beside(CHASE, 0, CHASE), CHASE + [no(R5), R3, R4])
        assert_refused(self, TooMany, beside, CHASE, 0, [no(R3), R0, R1, R2])
        assert_refused(self, TooMany, beside, [no(R3), R0, R1, R2], 0, CHASE)


class TheAskersOwn(unittest.TestCase):
    def test_the_told_board_may_be_changed(self):
        one, other = [R0, B0], [B0]
        answer = beside(one, 1, other)
        self.assertIsNot(answer, one)
        self.assertIsNot(answer, other)
        answer[0] = OFF
        answer.append(ON)
        answer[2] = ON
        self.assertEqual((one, other), ([R0, B0], [B0]))
        self.assertEqual(beside(one, 1, other), [R0, B0, B1])

    def test_the_boards_may_be_changed_later(self):
        one, other = [R0], [B0]
        answer = beside(one, 1, other)
        one.append(ON)
        other[0] = OFF
        self.assertEqual(answer, [R0, B1])
        self.assertEqual(beside(one, 1, other), [R0, ON, OFF])


class Together(unittest.TestCase):
    def test_it_settles_just_where_both_do_at_both_rests(self):
        for one, first, other, second in PAIRS:
            board = beside(one, first, other)
            for low in rows(first):
                for high in rows(second):
                    with self.subTest(one=one, other=other, low=low, high=high):
                        self.look_at_stands(board, one, low, other, high)

    def look_at_stands(self, board, one, low, other, high):
        left, right = graph(one, low), graph(other, high)
        for stand in rows(len(one)):
            for further in rows(len(other)):
                ends = (rest_of(left, stand), rest_of(right, further))
                answer = judged(board, low + high, stand + further)
                self.assertEqual(answer[0] == "settles", None not in ends)
                if None not in ends:
                    self.assertEqual(answer[1], ends[0] + ends[1])

    def test_its_rests_are_each_with_each(self):
        for one, first, other, second in PAIRS:
            board = beside(one, first, other)
            for low in rows(first):
                for high in rows(second):
                    each = [stand + further for further in rests(other, high) for stand in rests(one, low)]
                    self.assertEqual(rests(board, low + high), each)


if __name__ == "__main__":
    unittest.main()

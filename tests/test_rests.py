"""`rests`: all rests of a board, in the order of their numbers ([5], [6], and [1] of it)."""

import unittest

from relayroom.boards import rests
from rooms import (B0, B1, BOARDS, BUZZER, CHAIN, CHASE, HOLD, HOLD_SIX, LATCH, OFF, ON, R0, R1, R2, RIVALS,
                   RING_OF_SIX, assert_stand, both, can_move, either, no, row, rows, small_boards, told)


class Rests(unittest.TestCase):
    def assert_rests(self, numbers, board, pressed=()):
        answer = told(self, rests, board, pressed)
        self.assertIs(type(answer), list)
        for stand in answer:
            assert_stand(self, stand, len(board))
        self.assertEqual(answer, [row(number, len(board)) for number in numbers])

    def test_none(self):
        self.assert_rests([], BUZZER)
        self.assert_rests([], CHASE)
        self.assert_rests([], RING_OF_SIX)
        self.assert_rests([], [R0, no(R1), ON, OFF, R0, R0])

    def test_one(self):
        for relays in range(1, 7):
            self.assert_rests([2 ** relays - 1], [ON] * relays)
            self.assert_rests([0], [OFF] * relays, (True,) * 4)
            for k in range(relays):
                self.assert_rests([2 ** k], [OFF] * k + [ON] + [OFF] * (relays - k - 1))
        self.assert_rests([63], CHAIN, (True,))
        self.assert_rests([0], CHAIN, (False,))

    def test_several_in_the_order_of_their_numbers(self):
        self.assert_rests([0, 1], HOLD)
        self.assert_rests([1, 2], RIVALS)
        self.assert_rests([3, 4], [R0, R0, no(R0)])
        self.assert_rests([1, 3, 5, 7], [ON, R1, R2])
        self.assert_rests([2, 3, 4, 5], [R0, no(R2), no(R1)])
        self.assert_rests([0, 7, 56, 63], [R0, R0, R0, ("relay", 3), ("relay", 3), ("relay", 3)])
        self.assert_rests([7, 56], [R1, R2, no(("relay", 5)), no(R0), ("relay", 3), ("relay", 4)])

    def test_all_stands_of_six_relays(self):
        self.assert_rests(range(64), HOLD_SIX)
        self.assert_rests(range(64), HOLD_SIX, (True, False, True, False))

    def test_by_the_pressed(self):
        self.assert_rests([0, 1], LATCH, (False, False))
        self.assert_rests([1], LATCH, (True, False))
        self.assert_rests([0], LATCH, (False, True))
        self.assert_rests([0], LATCH, (True, True))
        self.assert_rests([], [both(B0, no(R0))], (True,))
        self.assert_rests([0], [both(B0, no(R0))], (False,))

    def test_the_boards(self):
        for board, buttons in BOARDS + [(board, 1) for board in small_boards()]:
            for pressed in rows(buttons):
                numbers = [n for n in range(2 ** len(board)) if not can_move(board, pressed, row(n, len(board)))]
                self.assert_rests(numbers, board, pressed)

    def test_the_told_list_is_the_askers_own(self):
        first = rests(RIVALS, ())
        self.assertIsNot(rests(RIVALS, ()), first)
        first.reverse()
        first.append((True, True))
        self.assert_rests([1, 2], RIVALS)
        rests(BUZZER, ()).append((True,))
        self.assert_rests([], BUZZER)

    def test_nothing_is_kept(self):
        board = [R0, either(B0, B1)]
        self.assert_rests([0, 1], board, (False, False))
        board[0] = ON
        self.assert_rests([1], board, (False, False))
        board.pop()
        self.assert_rests([1], board, (False, False))

    def test_arguments_by_name(self):
        self.assertEqual(rests(board=[B0], pressed=(True,)), [(True,)])


if __name__ == "__main__":
    unittest.main()

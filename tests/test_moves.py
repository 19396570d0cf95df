"""`movable` and `walked`: which relays can move, and moves one behind the other ([6], [7], and [1] of them)."""

import unittest

from relayroom.boards import movable, walked
from relayroom.errors import NoRelay, Still
from rooms import (B0, B1, B2, B3, BOARDS, BUZZER, CHAIN, CHASE, HOLD, HOLD_SIX, LATCH, OFF, ON, R0, R1, R2,
                   RING_OF_SIX, RIVALS, assert_refused, assert_stand, both, can_move, deepened, either, flipped, no,
                   places, row, rows, small_boards, told)


class Movable(unittest.TestCase):
    def assert_movable(self, relays, board, pressed, stand):
        answer = told(self, movable, board, pressed, stand)
        self.assertIs(type(answer), list)
        self.assertEqual([type(relay) for relay in answer], [int] * len(answer))
        self.assertEqual(answer, relays)

    def test_one_relay(self):
        for pressed in ((), row(0, 4), row(15, 4)):
            self.assert_movable([0], [ON], pressed, (False,))
            self.assert_movable([], [ON], pressed, (True,))
            self.assert_movable([], [OFF], pressed, (False,))
            self.assert_movable([0], [OFF], pressed, (True,))

    def test_fed_through_its_own_contact(self):
        for stand in rows(1):
            self.assert_movable([], HOLD, (), stand)
            self.assert_movable([0], BUZZER, (), stand)
        self.assert_movable([], LATCH, (False, False), (True,))
        self.assert_movable([0], LATCH, (True, False), (False,))
        self.assert_movable([0], LATCH, (False, True), (True,))
        self.assert_movable([], LATCH, (False, False), (False,))

    def test_rising(self):
        self.assert_movable([0, 1, 2, 3, 4, 5], [ON] * 6, (), (False,) * 6)
        self.assert_movable([0, 1, 2, 3, 4, 5], [OFF] * 6, (), (True,) * 6)
        self.assert_movable([1, 4], [ON, OFF] * 3, (), (True, True, True, False, False, False))
        self.assert_movable([5], [ON] * 6, (), (True,) * 5 + (False,))

    def test_four_buttons(self):
        for pressed in rows(4):
            wanted = [k for k in range(4) if pressed[k]]
            self.assert_movable(wanted, [B0, B1, B2, B3], pressed, (False,) * 4)

    def test_none_at_any_stand(self):
        for stand in rows(6):
            self.assert_movable([], HOLD_SIX, (), stand)

    def test_every_stand_of_the_boards(self):
        for board, buttons in BOARDS + [(board, 1) for board in small_boards()]:
            for pressed, stand in places(board, buttons):
                self.assert_movable(can_move(board, pressed, stand), board, pressed, stand)

    def test_the_told_list_is_the_askers_own(self):
        board, stand = [ON, OFF, no(R2)], (False, True, False)
        first = movable(board, (), stand)
        self.assertIsNot(movable(board, (), stand), first)
        first.append(5)
        first[0] = -1
        self.assertEqual(movable(board, (), stand), [0, 1, 2])
        nothing = movable([OFF], (), (False,))
        nothing.append(0)
        self.assertEqual(movable([OFF], (), (False,)), [])

    def test_nothing_is_kept(self):
        board = [ON, OFF]
        self.assertEqual(movable(board, (), (False, False)), [0])
        board[0], board[1] = OFF, ON
        self.assertEqual(movable(board, (), (False, False)), [1])
        board.append(ON)
        self.assertEqual(movable(board, (), (False, False, False)), [1, 2])

    def test_arguments_by_name(self):
        self.assertEqual(movable(board=[B0], pressed=(True,), stand=(False,)), [0])


class Walked(unittest.TestCase):
    def assert_walked(self, end, board, pressed, stand, moves):
        answer = told(self, walked, board, pressed, stand, moves)
        assert_stand(self, answer, len(board))
        self.assertEqual(answer, end)

    def test_no_move(self):
        for board, buttons in BOARDS:
            for pressed, stand in places(board, buttons):
                self.assert_walked(stand, board, pressed, stand, [])

    def test_one_move(self):
        for board, buttons in BOARDS + [(board, 1) for board in small_boards()]:
            for pressed, stand in places(board, buttons):
                free = can_move(board, pressed, stand)
                for relay in range(len(board)):
                    if relay in free:
                        self.assert_walked(flipped(stand, relay), board, pressed, stand, [relay])
                    else:
                        assert_refused(self, Still, walked, board, pressed, stand, [relay])

    def test_several(self):
        nothing = (False,) * 6
        self.assert_walked((True,) * 6, CHAIN, (True,), nothing, [0, 1, 2, 3, 4, 5])
        self.assert_walked((True,) * 6, [ON] * 6, (), nothing, [5, 0, 3, 1, 4, 2])
        self.assert_walked(nothing, CHAIN, (False,), (True,) * 6, [0, 1, 2, 3, 4, 5])
        self.assert_walked((False, True, True), CHASE, (), (True, True, False), [2, 0])
        self.assert_walked((True, False), RIVALS, (), (True, True), [1])

    def test_back_to_the_start(self):
        for turns in range(1, 5):
            self.assert_walked((True,), BUZZER, (), (True,), [0, 0] * turns)
            self.assert_walked((False,), BUZZER, (), (True,), [0, 0] * turns + [0])
            self.assert_walked((False,) * 3, CHASE, (), (False,) * 3, [0, 1, 2] * 2 * turns)
            self.assert_walked((False,) * 6, RING_OF_SIX, (), (False,) * 6, [0, 1, 2, 3, 4, 5] * 2 * turns)

    def test_a_move_sees_the_stand_behind_the_moves_ahead_of_it(self):
        assert_refused(self, Still, walked, CHAIN, (True,), (False,) * 6, [1, 0])
        self.assert_walked((True, True) + (False,) * 4, CHAIN, (True,), (False,) * 6, [0, 1])
        self.assert_walked((True, False), RIVALS, (), (False, False), [0])
        assert_refused(self, Still, walked, RIVALS, (), (False, False), [0, 1])
        assert_refused(self, Still, walked, [ON], (), (False,), [0, 0])

    def test_all_roads_of_three_moves(self):
        for board, buttons in BOARDS[:16]:
            for pressed, stand in places(board, buttons):
                roads = [([], stand)]
                for step in range(3):
                    roads = [(road + [k], flipped(end, k)) for road, end in roads
                             for k in can_move(board, pressed, end)]
                    for road, end in roads:
                        self.assert_walked(end, board, pressed, stand, road)

    def test_deep_words(self):
        board = [deepened(both(B3, either(R0, no(R0))), 8), R0]
        self.assert_walked((True, True), board, (False, False, False, True), (False, False), [0, 1])

    def test_nothing_is_kept(self):
        board, moves = [ON, R0], [0, 1]
        self.assertEqual(walked(board, (), (False, False), moves), (True, True))
        moves.pop()
        self.assertEqual(walked(board, (), (False, False), moves), (True, False))
        board[1] = no(R0)
        self.assertEqual(walked(board, (), (False, False), [1, 0]), (True, True))

    def test_arguments_by_name(self):
        self.assertEqual(walked(board=[B0, R1], pressed=(True,), stand=(False, True), moves=[0]), (True, True))


class WalkedRefusals(unittest.TestCase):
    def test_numbers_of_no_relay(self):
        for relays in range(1, 7):
            for number in (-1000, -7, -relays, -2, -1, relays, relays + 1, 7, 1000):
                for board in ([ON] * relays, [no(("relay", k)) for k in range(relays)]):
                    with self.subTest(relays=relays, number=number, board=board):
                        stand = (False,) * relays
                        assert_refused(self, NoRelay, walked, board, (), stand, [number])
                        assert_refused(self, NoRelay, walked, board, (), stand, [0, number])
                        assert_refused(self, NoRelay, walked, board, (True,) * 4, stand, [number, number])

    def test_every_relay_that_is_there(self):
        for relays in range(1, 7):
            for relay in range(relays):
                stand = (False,) * relays
                self.assertEqual(walked([ON] * relays, (), stand, [relay]), flipped(stand, relay))
                assert_refused(self, Still, walked, [OFF] * relays, (), stand, [relay])

    def test_the_first_fault_of_several(self):
        board, stand = [ON, OFF], (False, False)
        for far in (-1000, -1, 2, 1000):
            with self.subTest(far=far):
                assert_refused(self, NoRelay, walked, board, (), stand, [far, 1])
                assert_refused(self, Still, walked, board, (), stand, [1, far])
                assert_refused(self, NoRelay, walked, board, (), stand, [0, far, 0])
                assert_refused(self, Still, walked, board, (), stand, [0, 0, far])
                assert_refused(self, Still, walked, board, (), stand, [0, 1, far, 1])
                assert_refused(self, NoRelay, walked, board, (), stand, [0, far, 1, far])

    def test_a_fault_at_the_end_of_a_long_walk(self):
        turns = [0, 1, 2] * 20
        assert_refused(self, Still, walked, CHASE, (), (False,) * 3, turns + [1])
        assert_refused(self, NoRelay, walked, CHASE, (), (False,) * 3, turns + [3])
        self.assertEqual(walked(CHASE, (), (False,) * 3, turns), (False,) * 3)

    def test_by_the_pressed(self):
        board = [B0, either(R1, B1)]
        assert_refused(self, Still, walked, board, (False, True), (False, False), [0])
        self.assertEqual(walked(board, (False, True), (False, False), [1]), (False, True))


if __name__ == "__main__":
    unittest.main()

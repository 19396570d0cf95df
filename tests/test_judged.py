"""`judged`: whether a stand settles, with what shows it ([8], [9], and [1] of it)."""

import itertools
import unittest

from relayroom.judging import judged
from rooms import (B0, B1, BOARDS, BUZZER, CHAIN, CHASE, HOLD_SIX, LATCH, LATE_BUZZER, OFF, ON, R0, R1, R2, R3, R4,
                   REST_OR_BUZZER, RING_OF_SIX, RIVALS, RIVALS_AND_BUZZER, assert_stand, both, can_move, come_to,
                   count_board, either, flipped, graph, no, places, rings_and_rests, row, rows, small_boards,
                   table_board, told, walk)


class JudgedCase(unittest.TestCase):
    def judge(self, board, pressed, stand):
        """The answer, looked at by itself: whatever it says is walked here."""
        answer = told(self, judged, board, pressed, stand)
        self.assertIs(type(answer), tuple)
        self.assertEqual(len(answer), 3)
        self.assertIs(type(answer[0]), str)
        looks = {"settles": self.look_at_paper, "parts": self.look_at_roads, "rounds": self.look_at_ring}
        self.assertIn(answer[0], looks)
        looks[answer[0]](board, pressed, stand, answer[1], answer[2])
        return answer

    def look_at_paper(self, board, pressed, stand, rest, paper):
        assert_stand(self, rest, len(board))
        self.assertIs(type(paper), dict)
        self.assertEqual(set(paper), come_to(graph(board, pressed), [stand]))
        for here, number in paper.items():
            assert_stand(self, here, len(board))
            self.assertIs(type(number), int)
            self.assertGreaterEqual(number, 0)
            for relay in can_move(board, pressed, here):
                self.assertLess(paper[flipped(here, relay)], number)
        self.assertEqual([here for here in paper if not can_move(board, pressed, here)], [rest])

    def look_at_roads(self, board, pressed, stand, one, other):
        ends = [walk(self, board, pressed, stand, road) for road in (one, other)]
        self.assertEqual([can_move(board, pressed, end) for end in ends], [[], []])
        self.assertNotEqual(ends[0], ends[1])
        self.assertIsNot(one, other)

    def look_at_ring(self, board, pressed, stand, road, ring):
        middle = walk(self, board, pressed, stand, road)
        self.assertEqual(walk(self, board, pressed, middle, ring), middle)
        self.assertGreater(len(ring), 0)
        self.assertIsNot(road, ring)

    def assert_settles(self, rest, board, pressed, stand):
        answer = self.judge(board, pressed, stand)
        self.assertEqual(answer[:2], ("settles", rest))

    def assert_kind(self, kinds, board, pressed, stand):
        self.assertIn(self.judge(board, pressed, stand)[0], kinds)


class Settles(JudgedCase):
    def test_a_rest(self):
        for stand in rows(6):
            answer = self.judge(HOLD_SIX, (), stand)
            self.assertEqual(answer[:2], ("settles", stand))
            self.assertEqual(list(answer[2]), [stand])
        self.assert_settles((True, False), RIVALS, (), (True, False))
        self.assert_settles((False,), LATCH, (False, False), (False,))

    def test_one_way_alone(self):
        self.assert_settles((True,), [ON], (), (False,))
        self.assert_settles((False,), [OFF], (True,) * 4, (True,))
        for number in range(64):
            self.assert_settles((True,) * 6, CHAIN, (True,), row(number, 6))
            self.assert_settles((False,) * 6, CHAIN, (False,), row(number, 6))

    def test_many_ways_to_one_rest(self):
        for stand in rows(6):
            self.assert_settles((True,) * 6, [ON] * 6, (), stand)
        answer = self.judge([ON] * 6, (), (False,) * 6)
        self.assertEqual(len(answer[2]), 64)

    def test_the_paper_leaves_out_what_cannot_be_come_to(self):
        answer = self.judge([ON, ON, R2], (), (True, False, False))
        self.assertEqual(set(answer[2]), {(True, False, False), (True, True, False)})

    def test_a_rest_elsewhere_does_not_matter(self):
        self.assert_settles((True,), LATCH, (True, False), (False,))
        self.assert_settles((True, False), [R0, both(R1, no(R0))], (), (True, True))
        self.assert_settles((False, True), [R0, R1], (), (False, True))

    def test_a_ring_elsewhere_does_not_matter(self):
        board = [R0, both(R0, no(R1))]
        self.assert_settles((False, False), board, (), (False, True))
        self.assert_kind(["rounds"], board, (), (True, True))

    def test_a_long_way(self):
        for relays in range(1, 5):
            stands, board = count_board(relays, -1)
            for place, stand in enumerate(stands):
                answer = self.judge(board, (), stand)
                self.assertEqual(answer[:2], ("settles", stands[-1]))
                self.assertEqual(set(answer[2]), set(stands[place:]))


class Parts(JudgedCase):
    def test_rivals(self):
        self.assert_kind(["parts"], RIVALS, (), (False, False))
        self.assert_kind(["parts"], RIVALS, (), (True, True))

    def test_a_long_road_ahead_of_it(self):
        board = [ON, R0, R1, both(R2, no(R4)), both(R2, no(R3))]
        answer = self.judge(board, (), (False,) * 5)
        self.assertEqual(answer[0], "parts")
        self.assertGreaterEqual(min(len(answer[1]), len(answer[2])), 4)
        self.assert_settles((True, True, True, False, True), board, (), (True, True, True, False, True))

    def test_more_than_two_rests(self):
        board = [no(R1), no(R0), no(R3), no(R2)]
        self.assert_kind(["parts"], board, (), (False,) * 4)
        self.assert_kind(["parts"], board, (), (True,) * 4)
        self.assert_kind(["parts"], board, (), (True, False, True, True))
        self.assert_settles((True, False, False, True), board, (), (True, False, False, True))

    def test_by_the_pressed(self):
        board = [no(either(R1, B0)), no(either(R0, B1))]
        self.assert_kind(["parts"], board, (False, False), (False, False))
        self.assert_settles((False, True), board, (True, False), (False, False))
        self.assert_settles((True, False), board, (False, True), (False, False))
        self.assert_settles((False, False), board, (True, True), (True, True))


class Rounds(JudgedCase):
    def test_through_the_stand_itself(self):
        for stand in rows(1):
            answer = self.judge(BUZZER, (), stand)
            self.assertEqual(answer[0], "rounds")
        for board in (CHASE, RING_OF_SIX):
            for stand in rows(len(board)):
                self.assert_kind(["rounds"], board, (), stand)

    def test_come_to_by_a_road(self):
        answer = self.judge(LATE_BUZZER, (), (False,) * 3)
        self.assertEqual(answer[0], "rounds")
        self.assertGreaterEqual(len(answer[1]), 2)
        self.assert_kind(["rounds"], LATE_BUZZER, (), (True, True, False))
        self.assert_kind(["rounds"], [ON, both(R0, no(R1))], (), (False, False))

    def test_beside_one_rest_alone(self):
        self.assert_kind(["rounds"], REST_OR_BUZZER, (), (False,) * 3)
        self.assert_kind(["rounds"], REST_OR_BUZZER, (), (False, True, False))
        self.assert_settles((True, False, False), REST_OR_BUZZER, (), (True, False, True))

    def test_a_ring_that_can_be_left(self):
        # Relay 1 buzzes until relay 0 is pulled; the one rest can always be come to, yet need not be.
        board = [ON, both(no(R0), no(R1))]
        self.assert_kind(["rounds"], board, (), (False, False))
        self.assert_kind(["rounds"], board, (), (False, True))
        self.assert_settles((True, False), board, (), (True, True))

    def test_by_the_pressed(self):
        board = [both(B0, no(R0))]
        self.assert_kind(["rounds"], board, (True,), (False,))
        self.assert_settles((False,), board, (False,), (True,))

    def test_a_long_ring(self):
        for relays in range(2, 5):
            stands, board = count_board(relays, 0)
            for stand in stands:
                answer = self.judge(board, (), stand)
                self.assertEqual((answer[0], len(answer[2]) % len(stands)), ("rounds", 0))

    def test_no_rest_at_all_on_six_relays(self):
        board = [no(R0)] * 6
        self.assert_kind(["rounds"], board, (), (False,) * 6)


class PartsAndRounds(JudgedCase):
    def test_either_is_told(self):
        for stand in ((False,) * 3, (False, False, True)):
            ring, ends = rings_and_rests(graph(RIVALS_AND_BUZZER, ()), stand)
            self.assertTrue(ring)
            self.assertEqual(len(ends), 2)
            self.assert_kind(["parts", "rounds"], RIVALS_AND_BUZZER, (), stand)
        self.assert_settles((True, False, False), RIVALS_AND_BUZZER, (), (True, False, True))

    def test_a_ring_behind_two_rests(self):
        # Where relay 0 wins, relay 2 goes on and holds or not; where relay 1 wins, relay 3 buzzes.
        board = [no(R1), no(R0), both(R0, no(R3)), either(both(R0, no(R2)), both(R1, no(R3)))]
        ring, ends = rings_and_rests(graph(board, ()), (False,) * 4)
        self.assertTrue(ring)
        self.assertEqual(len(ends), 2)
        for pressed, stand in places(board, 0):
            self.judge(board, pressed, stand)
        self.assert_kind(["parts", "rounds"], board, (), (False,) * 4)


class EveryStand(JudgedCase):
    def assert_judged(self, board, buttons):
        for pressed in rows(buttons):
            leads = graph(board, pressed)
            for stand in rows(len(board)):
                ring, ends = rings_and_rests(leads, stand)
                kinds = (["rounds"] if ring else []) + (["parts"] if len(ends) > 1 else [])
                self.assert_kind(kinds or ["settles"], board, pressed, stand)

    def test_small_boards(self):
        for board in small_boards():
            self.assert_judged(board, 1)

    def test_all_boards_of_two_relays(self):
        for fed_stands in itertools.product(rows(2), repeat=4):
            self.assert_judged(table_board(dict(zip(rows(2), fed_stands)), 2), 0)

    def test_many_boards_of_three_relays(self):
        for number in range(0, 8 ** 8, 8 ** 8 // 150 + 1):
            feeds = {stand: row(number // 8 ** place % 8, 3) for place, stand in enumerate(rows(3))}
            self.assert_judged(table_board(feeds, 3), 0)

    def test_boards_of_one_to_six_relays(self):
        self.assertEqual({len(board) for board, buttons in BOARDS}, {1, 2, 3, 4, 5, 6})
        for board, buttons in BOARDS:
            with self.subTest(board=board):
                self.assert_judged(board, buttons)


class TheAskersOwn(JudgedCase):
    def test_the_paper(self):
        first = judged(CHAIN, (True,), (False,) * 6)
        again = judged(CHAIN, (True,), (False,) * 6)
        self.assertIsNot(first[2], again[2])
        first[2].clear()
        self.assert_settles((True,) * 6, CHAIN, (True,), (False,) * 6)

    def test_roads_and_rings(self):
        for board, stand in ((RIVALS, (False, False)), (RIVALS, (True, True)), (BUZZER, (False,)),
                             (CHASE, (False,) * 3), (LATE_BUZZER, (False,) * 3), (RIVALS_AND_BUZZER, (False,) * 3)):
            first = judged(board, (), stand)
            again = judged(board, (), stand)
            self.assertEqual(len({id(part) for answer in (first, again) for part in answer[1:]}), 4)
            first[1].append(1000)
            self.judge(board, (), stand)
            first[2].clear()
            self.judge(board, (), stand)
            self.assertEqual(judged(board, (), stand), again)

    def test_one_changed_leaves_the_other(self):
        for board, stand in ((RIVALS, (False, False)), (BUZZER, (False,)), (CHASE, (True, True, True))):
            answer = judged(board, (), stand)
            other = list(answer[2])
            answer[1].append(1000)
            self.assertEqual(answer[2], other)

    def test_nothing_is_kept(self):
        board = [no(R1), no(R0)]
        self.assert_kind(["parts"], board, (), (False, False))
        board[1] = R0
        self.assert_kind(["rounds"], board, (), (False, False))
        board[0] = ON
        self.assert_settles((True, True), board, (), (False, False))
        board.append(B1)
        self.assert_settles((True, True, True), board, (False, True), (False, False, False))

    def test_arguments_by_name(self):
        self.assertEqual(judged(board=[B0], pressed=(True,), stand=(False,))[:2], ("settles", (True,)))


if __name__ == "__main__":
    unittest.main()

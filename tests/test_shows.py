"""`shows`: whether a paper is a showing for a stand ([10], and [1] of it)."""

import unittest

from relayroom.judging import judged, shows
from rooms import (B0, BOARDS, BUZZER, CHAIN, HOLD, HOLD_SIX, LATCH, ON, R0, R1, R2, RIVALS, both, can_move, come_to,
                   flipped, graph, no, places, rest_of, row, rows, small_boards, told)


def is_showing(board, pressed, stand, paper):
    """The words of [10], one behind the other."""
    if stand not in paper or min(paper.values()) < 0:
        return False
    for here in paper:
        for there in [flipped(here, relay) for relay in can_move(board, pressed, here)]:
            if there not in paper or not paper[there] < paper[here]:
                return False
    return len([here for here in paper if not can_move(board, pressed, here)]) == 1


class ShowsCase(unittest.TestCase):
    def assert_shows(self, expected, board, pressed, stand, paper):
        self.assertIs(is_showing(board, pressed, stand, paper), expected)
        order = list(paper.items())
        self.assertIs(told(self, shows, board, pressed, stand, paper), expected)
        self.assertEqual(list(paper.items()), order)
        turned = dict(reversed(order))
        self.assertIs(told(self, shows, board, pressed, stand, turned), expected)


F, T = False, True
PULLED_ONE_BY_ONE = {(F, F): 2, (T, F): 1, (F, T): 1, (T, T): 0}


class Showings(ShowsCase):
    def test_told_papers(self):
        for board, buttons in BOARDS + [(board, 1) for board in small_boards()]:
            for pressed, stand in places(board, buttons):
                answer = judged(board, pressed, stand)
                if answer[0] == "settles":
                    self.assertIs(told(self, shows, board, pressed, stand, answer[2]), True)

    def test_a_rest_alone(self):
        self.assert_shows(True, HOLD, (), (T,), {(T,): 0})
        self.assert_shows(True, HOLD, (), (F,), {(F,): 0})
        self.assert_shows(True, [ON], (), (T,), {(T,): 0})
        self.assert_shows(True, HOLD_SIX, (), row(37, 6), {row(37, 6): 5})

    def test_numbers_need_not_be_close(self):
        self.assert_shows(True, [ON], (), (F,), {(T,): 0, (F,): 1000})
        self.assert_shows(True, [ON], (), (F,), {(F,): 8, (T,): 7})
        self.assert_shows(True, [ON, ON], (), (F, F), {(F, F): 900, (T, F): 40, (F, T): 3, (T, T): 2})

    def test_equal_numbers_beside_one_another(self):
        self.assert_shows(True, [ON, ON], (), (F, F), PULLED_ONE_BY_ONE)

    def test_more_stands_than_can_be_come_to(self):
        for stand in rows(2):
            self.assert_shows(True, [ON, ON], (), stand, PULLED_ONE_BY_ONE)
        self.assert_shows(True, [ON], (), (T,), {(T,): 0, (F,): 1})
        whole = {stand: 6 - sum(stand) for stand in rows(6)}
        for stand in rows(6):
            self.assert_shows(True, [ON] * 6, (), stand, whole)

    def test_by_the_pressed(self):
        paper = {(F,): 1, (T,): 0}
        self.assert_shows(True, LATCH, (True, False), (F,), paper)
        self.assert_shows(False, LATCH, (False, False), (F,), paper)
        self.assert_shows(False, LATCH, (False, True), (F,), paper)


class NoShowings(ShowsCase):
    def test_the_empty_dict(self):
        for board, buttons in BOARDS:
            for pressed, stand in places(board, buttons):
                self.assertIs(shows(board, pressed, stand, {}), False)

    def test_without_the_stand(self):
        self.assert_shows(False, [ON], (), (F,), {(T,): 0})
        self.assert_shows(False, HOLD, (), (F,), {(T,): 0})
        self.assert_shows(False, [ON, ON], (), (F, F), {(T, F): 1, (F, T): 1, (T, T): 0})

    def test_a_stand_left_out(self):
        for left_out in ((T, F), (F, T), (T, T)):
            paper = dict(PULLED_ONE_BY_ONE)
            paper.pop(left_out)
            self.assert_shows(False, [ON, ON], (), (F, F), paper)

    def test_a_stand_left_out_behind_one_that_cannot_be_come_to(self):
        # From (T, T) nothing moves, yet (F, F) is in the paper, and so must be what its moves lead to.
        self.assert_shows(False, [ON, ON], (), (T, T), {(T, T): 0, (F, F): 2, (T, F): 1})

    def test_a_number_not_lesser(self):
        self.assert_shows(False, [ON], (), (F,), {(F,): 0, (T,): 1})
        self.assert_shows(False, [ON, ON], (), (F, F), {(F, F): 2, (T, F): 3, (F, T): 1, (T, T): 0})
        self.assert_shows(False, [ON, ON], (), (T, T), {(F, F): 2, (T, F): 1, (F, T): 9, (T, T): 0})

    def test_equal_numbers_along_a_move(self):
        self.assert_shows(False, [ON], (), (F,), {(F,): 0, (T,): 0})
        self.assert_shows(False, [ON, ON], (), (F, F), {(F, F): 1, (T, F): 1, (F, T): 0, (T, T): 0})
        self.assert_shows(False, [ON, ON], (), (F, F), {(F, F): 2, (T, F): 1, (F, T): 2, (T, T): 0})

    def test_a_number_below_0(self):
        for below in (-1, -2, -1000):
            self.assert_shows(False, [ON], (), (T,), {(T,): below})
            self.assert_shows(False, [ON], (), (F,), {(F,): 0, (T,): below})
            self.assert_shows(False, [ON], (), (T,), {(F,): 1, (T,): below})
        self.assert_shows(False, [ON, ON], (), (F, F), {(F, F): 1, (T, F): 0, (F, T): 0, (T, T): -1})
        self.assert_shows(False, [ON, ON], (), (F, F), {(F, F): -1, (T, F): -2, (F, T): -2, (T, T): -3})

    def test_two_rests(self):
        self.assert_shows(False, HOLD, (), (T,), {(T,): 0, (F,): 0})
        self.assert_shows(False, RIVALS, (), (F, F), {(F, F): 1, (T, F): 0, (F, T): 0})
        self.assert_shows(False, RIVALS, (), (T, F), {(T, F): 0, (F, T): 0})
        self.assert_shows(False, HOLD_SIX, (), (F,) * 6, {stand: 0 for stand in rows(6)})

    def test_no_rest(self):
        self.assert_shows(False, BUZZER, (), (F,), {(F,): 0, (T,): 1})
        self.assert_shows(False, BUZZER, (), (T,), {(F,): 0, (T,): 0})
        self.assert_shows(False, BUZZER, (), (T,), {(T,): 1})

    def test_a_ring_beside_a_rest(self):
        # (T, F) and (T, T) go round; (F, F) is a rest and could settle by itself.
        board = [R0, both(R0, no(R1))]
        self.assert_shows(True, board, (), (F, F), {(F, F): 0})
        self.assert_shows(False, board, (), (F, F), {(F, F): 0, (T, F): 1, (T, T): 2})


class EveryPaper(ShowsCase):
    def test_all_papers_of_one_relay(self):
        numbers = (None, -1, 0, 1, 2)
        for board in ([ON], HOLD, BUZZER, [B0], [no(B0)]):
            for pressed, stand in places(board, 1):
                for low in numbers:
                    for high in numbers:
                        paper = {key: n for key, n in (((F,), low), ((T,), high)) if n is not None}
                        expected = bool(paper) and is_showing(board, pressed, stand, paper)
                        self.assertIs(told(self, shows, board, pressed, stand, paper), expected)

    def test_all_papers_of_two_relays(self):
        numbers = (None, -1, 0, 1, 2)
        papers = [{}]
        for stand in rows(2):
            papers = [{**paper, **({} if n is None else {stand: n})} for paper in papers for n in numbers]
        for board in ([ON, ON], [ON, R0], RIVALS, [R1, R0], [R0, no(R0)]):
            for stand in rows(2):
                for paper in papers[1:]:
                    self.assertIs(shows(board, (), stand, paper), is_showing(board, (), stand, paper))

    def test_a_stand_that_does_not_settle_has_none(self):
        for board, buttons in BOARDS:
            for pressed in rows(buttons):
                leads = graph(board, pressed)
                for stand in rows(len(board))[::5]:
                    if rest_of(leads, stand) is None:
                        whole = {here: n for n, here in enumerate(sorted(come_to(leads, [stand])))}
                        self.assertIs(shows(board, pressed, stand, whole), False)

    def test_told_papers_with_one_stand_less(self):
        paper = judged(CHAIN, (True,), (F,) * 6)[2]
        for left_out in paper:
            less = {here: n for here, n in paper.items() if here != left_out}
            self.assert_shows(False, CHAIN, (True,), (F,) * 6, less)


class NothingIsKept(ShowsCase):
    def test_the_paper_may_be_changed_later(self):
        paper = {(F,): 1, (T,): 0}
        self.assert_shows(True, [ON], (), (F,), paper)
        paper[(F,)] = 0
        self.assert_shows(False, [ON], (), (F,), paper)
        paper[(F,)] = 5
        self.assert_shows(True, [ON], (), (F,), paper)

    def test_the_board_may_be_changed_later(self):
        board, paper = [ON, R1, R2], {(F, T, F): 1, (T, T, F): 0}
        self.assert_shows(True, board, (), (F, T, F), paper)
        board[2] = ON
        self.assert_shows(False, board, (), (F, T, F), paper)

    def test_arguments_by_name(self):
        self.assertIs(shows(board=[B0], pressed=(True,), stand=(True,), paper={(True,): 0}), True)


if __name__ == "__main__":
    unittest.main()

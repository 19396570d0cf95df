"""What holds over the whole program: its interface, [1], words told otherwise, and boards without a not."""

import ast
import copy
import inspect
import itertools
import pathlib
import unittest

import relayroom
from relayroom import boards, judging, notes, words
from relayroom.boards import beside, movable, rests, walked
from relayroom.errors import RoomError
from relayroom.judging import judged, shows
from relayroom.notes import read, shown
from relayroom.words import looked, unlike, worth
from rooms import (B0, B1, B2, B3, BOARDS, OFF, ON, R0, R1, R2, R3, R4, R5, both, depth_of, either, graph, no,
                   places, rest_of, rows, table_board)

INTERFACE = [
    (words, "looked", ["board", "buttons"]), (words, "worth", ["word", "stand", "pressed"]),
    (words, "unlike", ["one", "other", "relays", "buttons"]),
    (boards, "movable", ["board", "pressed", "stand"]), (boards, "walked", ["board", "pressed", "stand", "moves"]),
    (boards, "rests", ["board", "pressed"]), (boards, "beside", ["one", "buttons", "other"]),
    (judging, "judged", ["board", "pressed", "stand"]), (judging, "shows", ["board", "pressed", "stand", "paper"]),
    (notes, "shown", ["board"]), (notes, "read", ["text"]),
]


class Interface(unittest.TestCase):
    def test_names_and_arguments(self):
        for module, name, arguments in INTERFACE:
            with self.subTest(name=name):
                call = getattr(module, name)
                self.assertEqual(call.__module__, module.__name__)
                found = inspect.signature(call).parameters.values()
                self.assertEqual([one.name for one in found], arguments)
                self.assertEqual({one.kind for one in found}, {inspect.Parameter.POSITIONAL_OR_KEYWORD})

    def test_only_the_packages_own_modules_are_drawn_from(self):
        files = sorted(pathlib.Path(relayroom.__file__).parent.glob("*.py"))
        self.assertGreaterEqual(len(files), 6)
        for file in files:
            for node in ast.walk(ast.parse(file.read_text())):
                self.assertNotIsInstance(node, ast.Import)
                if isinstance(node, ast.ImportFrom):
                    self.assertEqual((node.module.split(".")[0], node.level), ("relayroom", 0))


def lists_and_dicts(value):
    """Every list and dict within a value, itself too."""
    if isinstance(value, dict):
        return [value] + [found for pair in value.items() for found in lists_and_dicts(pair)]
    if isinstance(value, (list, tuple)):
        within = [found for part in value for found in lists_and_dicts(part)]
        return within + ([value] if isinstance(value, list) else [])
    return []


def calls(board, buttons, pressed, stand, paper, moves):
    """Each call of the program over one board, with what is handed in."""
    half = board[:3]
    return [
        (looked, [board, buttons]), (worth, [board[0], stand, pressed]),
        (unlike, [board[0], board[-1], len(board), buttons]), (movable, [board, pressed, stand]),
        (walked, [board, pressed, stand, moves]), (rests, [board, pressed]), (beside, [half, buttons, list(half)]),
        (judged, [board, pressed, stand]), (shows, [board, pressed, stand, paper]), (shown, [board]),
        (read, [shown(board)]),
    ]


class NothingIsChangedNorKept(unittest.TestCase):
    def each_call(self):
        for board, buttons in BOARDS:
            for pressed, stand in places(board, buttons)[::7]:
                paper = {here: sum(here) for here in rows(len(board))}
                for moves in (movable(board, pressed, stand)[:1], [len(board)]):
                    yield from calls(list(board), buttons, pressed, stand, paper, moves)

    def answer(self, call, handed):
        try:
            return call(*handed)
        except RoomError as refusal:
            return type(refusal).__name__

    def test_what_is_handed_in_stays(self):
        for call, handed in self.each_call():
            before = copy.deepcopy(handed)
            self.answer(call, handed)
            self.assertEqual(handed, before)

    def test_no_two_lists_are_one(self):
        for call, handed in self.each_call():
            answers = [self.answer(call, handed), self.answer(call, handed)]
            found = [id(one) for one in lists_and_dicts(answers + handed)]
            self.assertEqual(len(set(found)), len(found), call.__name__)

    def test_what_was_told_may_be_changed(self):
        for call, handed in self.each_call():
            first = self.answer(call, handed)
            before = copy.deepcopy(first)
            for one in lists_and_dicts(first):
                one.clear()
            self.assertEqual(self.answer(call, handed), before)

    def test_what_was_handed_in_may_be_changed_later(self):
        for call, handed in self.each_call():
            mine = copy.deepcopy(handed)
            first = self.answer(call, mine)
            before = copy.deepcopy(first)
            for one in lists_and_dicts(mine):
                one.clear()
            self.assertEqual(first, before)
            self.assertEqual(self.answer(call, handed), before)


def other_sign(word):
    if word[0] in ("and", "or"):
        return no(("or" if word[0] == "and" else "and", no(word[1]), no(word[2])))
    return word


def turned(word):
    """The word with the two parts of each and, each or, changed about."""
    if word[0] in ("and", "or"):
        return (word[0], turned(word[2]), turned(word[1]))
    return no(turned(word[1])) if word[0] == "not" else word


OTHERWISE = [
    lambda word: no(no(word)), other_sign, turned, lambda word: both(word, ON), lambda word: both(ON, word),
    lambda word: either(word, OFF), lambda word: either(OFF, word), lambda word: both(word, word),
    lambda word: no(no(turned(other_sign(word)))), lambda word: either(both(word, OFF), word),
]


class ToldOtherwise(unittest.TestCase):
    def test_nothing_changes(self):
        for board, buttons in BOARDS:
            for number, change in enumerate(OTHERWISE):
                told_so = [change(word) for word in board]
                if max(depth_of(word) for word in told_so) <= 8:
                    with self.subTest(board=board, number=number):
                        self.assert_same(board, told_so, buttons)

    def test_each_word_in_a_way_of_its_own(self):
        for board, buttons in BOARDS:
            for shift in range(3):
                told_so = [OTHERWISE[(3 * k + shift) % len(OTHERWISE)](word) for k, word in enumerate(board)]
                told_so = [one if depth_of(one) <= 8 else word for one, word in zip(told_so, board)]
                self.assert_same(board, told_so, buttons)

    def assert_same(self, board, told_so, buttons):
        looked(told_so, buttons)
        for one, other in zip(board, told_so):
            self.assertIs(unlike(one, other, len(board), buttons), None)
        for pressed in rows(buttons):
            self.assertEqual(rests(told_so, pressed), rests(board, pressed))
            for stand in rows(len(board)):
                self.assertEqual(movable(told_so, pressed, stand), movable(board, pressed, stand))
                first, second = judged(board, pressed, stand), judged(told_so, pressed, stand)
                self.assertEqual(second[0] == "settles", first[0] == "settles")
                if first[0] == "settles":
                    self.assertEqual(second[1], first[1])
                    self.assertIs(shows(told_so, pressed, stand, first[2]), True)
                    self.assertIs(shows(board, pressed, stand, second[2]), True)


class WithoutANot(unittest.TestCase):
    POOL = [ON, OFF, R0, R1, B0, both(R0, R1), either(R1, B0), both(B1, either(R0, R1)), either(R0, both(R1, B1))]
    LARGE = [
        ([either(R5, B0), R0, both(R1, either(B1, R2)), either(R2, R4), both(R3, R1), R4], 2),
        ([B0, B1, B2, B3, both(R0, either(R1, R2)), either(R4, both(R3, R5))], 4),
        ([either(B0, R1), either(R0, R2), both(R1, R3), either(R2, B1), both(R3, R4)], 2),
        ([R1, R2, R3, either(B0, R0)], 1), ([either(R1, R2), ON, both(R0, R1)], 0), ([R0], 0), ([either(R0, B3)], 4),
    ]

    def test_it_settles_from_no_relay_pulled(self):
        found = [([one, other], 2) for one, other in itertools.product(self.POOL, repeat=2)] + self.LARGE
        for board, buttons in found:
            for pressed in rows(buttons):
                with self.subTest(board=board, pressed=pressed):
                    nothing = (False,) * len(board)
                    answer = judged(board, pressed, nothing)
                    self.assertEqual(answer[:2], ("settles", rest_of(graph(board, pressed), nothing)))
                    self.assertEqual(answer[1], rests(board, pressed)[0])
                    self.assertIs(shows(board, pressed, nothing, answer[2]), True)


class OneThroughTheOther(unittest.TestCase):
    def test_answers_are_walked_and_shown(self):
        found = [(board, buttons) for board, buttons in BOARDS]
        found += [(table_board(dict(zip(rows(2), feeds)), 2), 0) for feeds in itertools.product(rows(2), repeat=4)]
        for board, buttons in found:
            board = read(shown(board))
            for pressed, stand in places(board, buttons):
                kind, one, other = judged(board, pressed, stand)
                if kind == "settles":
                    self.assertIn(one, rests(board, pressed))
                    self.assertIs(shows(board, pressed, stand, other), True)
                elif kind == "parts":
                    ends = [walked(board, pressed, stand, road) for road in (one, other)]
                    self.assertEqual([end in rests(board, pressed) for end in ends], [True, True])
                    self.assertNotEqual(ends[0], ends[1])
                else:
                    middle = walked(board, pressed, stand, one)
                    self.assertEqual(walked(board, pressed, middle, other), middle)
                    self.assertNotEqual(other, [])


if __name__ == "__main__":
    unittest.main()

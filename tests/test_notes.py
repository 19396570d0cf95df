"""`shown` and `read`: boards written and read ([12], and [1] of them)."""

import itertools
import re
import unittest

from relayroom.errors import Deep, NoNote
from relayroom.notes import read, shown
from rooms import (B0, B1, B2, B3, BOARDS, OFF, ON, R0, R1, R2, assert_refused, both, deepened, depth_of, either, no,
                   small_boards, told)

WRITTEN = [
    ("1", ON), ("0", OFF), ("r0", R0), ("b0", B0), ("r5", ("relay", 5)), ("b3", B3), ("!1", no(ON)),
    ("!!r1", no(no(R1))),
    ("(1&0)", both(ON, OFF)), ("(0|1)", either(OFF, ON)), ("(r0&b1)", both(R0, B1)), ("(b1|r0)", either(B1, R0)),
    ("!(r0&r1)", no(both(R0, R1))), ("(!r0&r1)", both(no(R0), R1)), ("(r0&!r1)", both(R0, no(R1))),
    ("((r0&r1)|b2)", either(both(R0, R1), B2)), ("(r0&(r1|b2))", both(R0, either(R1, B2))),
    ("((1|0)&(0|1))", both(either(ON, OFF), either(OFF, ON))),
    ("!!!(!0|!!b0)", no(no(no(either(no(OFF), no(no(B0))))))),
    ("((b0|r0)&!b1)", both(either(B0, R0), no(B1))), ("(((1&1)&1)&1)", both(both(both(ON, ON), ON), ON)),
    ("(1|(1|(1|1)))", either(ON, either(ON, either(ON, ON)))),
]
NO_WORDS = [
    "", " ", "1 ", " 1", "( 1&1)", "(1 &1)", "(1& 1)", "(1&1 )", "! 1", "r 1", "r1 ", "1~", "x", "R0", "B0", "2", "9",
    "11", "10", "01", "r", "b", "r10", "b00", "rr", "rb0", "rr0", "r!", "r(", "!r", "!b", "!", "!!", "1!", "r0!",
    "!r0b0", "(", ")", "()", "(1)", "(r0)", "(!1)", "((1))", "(1", "1)", "(1&", "(1&1", "1&1", "1&1)", "(&1)", "(1&)",
    "(&)", "(1&&1)", "(1|&1)", "(1|1|1)", "(1&1&1)", "(11)", "(1!1)", "(1!&1)", "(1&1))", "((1&1)", "(1&1)1",
    "1(1&1)", "(1&1)(1&1)", "(1&1)!", "(1&1)&1", "!(1&1", "!(1)", "!()", "(1,1)", "(1+1)", "(1*1)", "(1^1)", "[1&1]",
    "{1&1}", "~1", "-1", "r-1", "r+1", "r.0", "(r&1)", "(1&r)", "(b|1)", "(1|b)", "(r1&b)", "on", "off", "1.", "1,1",
    "1:1", "1&", "&1", "|", "&", "\"1\"", "'1'", "\\", "1\\n",
]


def is_written(text):
    """Whether the text is written as a board is: its words are shrunk to W, from within."""
    text = re.sub("[rb][0-9]|[01]", "W", text.replace("W", "?"))
    before = None
    while text != before:
        before = text
        text = re.sub(r"!W|\(W[&|]W\)", "W", text)
    return re.fullmatch("W(;W)*", text) is not None


class NotesCase(unittest.TestCase):
    def assert_no_note(self, text):
        self.assertFalse(is_written(text), text)
        assert_refused(self, NoNote, read, text)

    def assert_deep(self, text):
        self.assertTrue(is_written(text), text)
        assert_refused(self, Deep, read, text)

    def assert_read(self, board, text):
        self.assertTrue(is_written(text), text)
        answer = read(text)
        self.assertIs(type(answer), list)
        self.assertEqual(answer, board)
        for word in answer:
            self.look_at_kinds(word)

    def look_at_kinds(self, word):
        self.assertIs(type(word), tuple)
        self.assertIs(type(word[0]), str)
        for part in word[1:]:
            if word[0] in ("relay", "button"):
                self.assertIs(type(part), int)
            else:
                self.look_at_kinds(part)

    def assert_shown(self, text, board):
        answer = told(self, shown, board)
        self.assertIs(type(answer), str)
        self.assertEqual(answer, text)


class Shown(NotesCase):
    def test_each_kind_of_word(self):
        for text, word in WRITTEN:
            with self.subTest(text=text):
                self.assert_shown(text, [word])

    def test_figures_0_to_9(self):
        for k in range(10):
            self.assert_shown(f"r{k}", [("relay", k)])
            self.assert_shown(f"b{k}", [("button", k)])
            self.assert_shown(f"(!r{k}|b{9 - k})", [either(no(("relay", k)), ("button", 9 - k))])

    def test_several_words(self):
        for count in range(1, len(WRITTEN) + 1):
            texts, board = zip(*WRITTEN[:count])
            self.assert_shown(";".join(texts), list(board))

    def test_deeper_than_eight(self):
        self.assert_shown("!" * 19 + "1", [nots(19, ON)])
        self.assert_shown("(" * 19 + "r9" + "&0)" * 19, [lefts(19, ("relay", 9))])
        self.assert_shown("(0|" * 19 + "b9" + ")" * 19, [rights(19, ("button", 9))])

    def test_nothing_is_kept(self):
        board = [ON, R0]
        self.assert_shown("1;r0", board)
        board[0] = OFF
        self.assert_shown("0;r0", board)
        board.pop()
        self.assert_shown("0", board)

    def test_arguments_by_name(self):
        self.assertEqual(shown(board=[ON]), "1")


def nots(count, word):
    for step in range(count):
        word = no(word)
    return word


def lefts(count, word):
    for step in range(count):
        word = both(word, OFF)
    return word


def rights(count, word):
    for step in range(count):
        word = either(OFF, word)
    return word


class Read(NotesCase):
    def test_each_kind_of_word(self):
        for text, word in WRITTEN:
            with self.subTest(text=text):
                self.assert_read([word], text)

    def test_figures_0_to_9(self):
        for k in range(10):
            self.assert_read([("relay", k)], f"r{k}")
            self.assert_read([("button", k)], f"b{k}")
            self.assert_read([both(("relay", k), no(("button", 9 - k))), ("relay", k)], f"(r{k}&!b{9 - k});r{k}")

    def test_contacts_need_not_be_there(self):
        self.assert_read([("relay", 9)], "r9")
        self.assert_read([("button", 8), ("relay", 7)], "b8;r7")

    def test_several_words(self):
        for count in range(1, len(WRITTEN) + 1):
            texts, board = zip(*WRITTEN[:count])
            self.assert_read(list(board), ";".join(texts))

    def test_as_many_as_there_are(self):
        for count in (1, 2, 5, 6, 7, 8, 50, 100, 150):
            self.assert_read([ON] * count, ";".join(["1"] * count))
        self.assert_read([R0, R1] * 50, ";".join(["r0", "r1"] * 50))

    def test_somewhat_more_than_300_signs(self):
        self.assert_read([ON] * 151, ";".join(["1"] * 151))
        self.assert_no_note("1;" * 155)

    def test_what_was_shown(self):
        for board, buttons in BOARDS + [(board, 1) for board in small_boards()]:
            text = shown(board)
            self.assert_read(board, text)
            self.assertEqual(shown(read(text)), text)

    def test_the_told_list_is_the_askers_own(self):
        first = read("1;r0")
        self.assertIsNot(read("1;r0"), first)
        first.append(ON)
        first[0] = OFF
        self.assert_read([ON, R0], "1;r0")

    def test_arguments_by_name(self):
        self.assertEqual(read(text="!b2"), [no(B2)])


class NoNotes(NotesCase):
    def test_the_empty_text(self):
        self.assert_no_note("")

    def test_no_words(self):
        for text in NO_WORDS:
            with self.subTest(text=text):
                self.assert_no_note(text)

    def test_no_words_beside_words(self):
        for text in NO_WORDS:
            for whole in (text + ";1", "1;" + text, "r0;" + text + ";(1&0)"):
                with self.subTest(whole=whole):
                    self.assert_no_note(whole)

    def test_semicolons(self):
        for text in (";", ";;", ";1", "1;", "1;;1", ";1;1", "1;1;", "1; 1", "1 ;1", "1; ", " ;1", "(1;1)", "(1&1;1)",
                     "(1;&1)", "(1&;1)", "!;1", "r;0", "b;1", "1,1", "(1&1);", ";(1&1)", "(1&1;)", "1;(1", "1);1"):
            with self.subTest(text=text):
                self.assert_no_note(text)

    def test_each_sign_by_itself(self):
        for sign in signs():
            if sign in "01":
                self.assert_read([ON if sign == "1" else OFF], sign)
            else:
                self.assert_no_note(sign)

    def test_each_sign_put_in_and_put_in_place_of_another(self):
        for text in ("((r0&!b1)|1);0", "!!(b2|r3)", "r4;b5"):
            for place in range(len(text) + 1):
                for sign in signs():
                    self.assert_by_the_writing(text[:place] + sign + text[place:])
                    self.assert_by_the_writing(text[:place] + sign + text[place + 1:])
                self.assert_by_the_writing(text[:place] + text[place + 1:])

    def assert_by_the_writing(self, text):
        if not is_written(text):
            self.assert_no_note(text)
        else:
            self.assertEqual(shown(read(text)), text)

    def test_all_short_texts(self):
        for alphabet, longest in (("10rb!(&|);7 x", 4), ("1r!(&);", 6)):
            for count in range(longest + 1):
                for each in itertools.product(alphabet, repeat=count):
                    text = "".join(each)
                    try:
                        answer = shown(read(text))
                    except NoNote:
                        answer = None
                    self.assertEqual(answer, text if is_written(text) else None)

    def test_long_texts(self):
        for text in ("!" * 300, "(" * 300, ")" * 300, "&" * 300, "r" * 300, "0" * 300, ";" * 300, " " * 300,
                     "1;" * 150, "(" * 150 + ")" * 150, "(1&" * 100, "1&" * 150, "(1" * 150, "!(" * 150, "1)" * 150,
                     "r0" * 150, "(" * 299 + "1", "1" + "!" * 299, "!" * 299 + ")", "!" * 298 + "11",
                     "(" * 74 + "1" + "&1)" * 73, "(1&" * 74 + "1" + ")" * 73, "(1&" * 74 + "1" + ")" * 75):
            with self.subTest(text=text):
                self.assert_no_note(text)


def signs():
    return [chr(number) for number in range(ord(" "), ord("~") + 1) if chr(number) != "%"]


class Depths(NotesCase):
    def test_every_depth_up_to_eight(self):
        for depth in range(1, 9):
            self.assert_read([nots(depth - 1, R0)], "!" * (depth - 1) + "r0")
            self.assert_read([lefts(depth - 1, ON)], "(" * (depth - 1) + "1" + "&0)" * (depth - 1))
            self.assert_read([rights(depth - 1, B1)], "(0|" * (depth - 1) + "b1" + ")" * (depth - 1))
            self.assert_read([ON, deepened(R2, depth), OFF], "1;" + shown([deepened(R2, depth)]) + ";0")

    def test_deeper(self):
        for depth in (9, 10, 20, 70):
            for text in ("!" * (depth - 1) + "r0", "(" * (depth - 1) + "1" + "&0)" * (depth - 1),
                         "(0|" * (depth - 1) + "b1" + ")" * (depth - 1)):
                with self.subTest(text=text):
                    self.assert_deep(text)
                    self.assert_deep("1;" + text)
                    self.assert_deep(text + ";1")
                    self.assert_deep("(1&" + text + ")")
                    self.assert_deep("(" + text + "|1)")

    def test_the_deepest_part_counts(self):
        eight = "!" * 7 + "1"
        self.assert_read([no(nots(6, ON)), nots(7, OFF)], eight + ";!!!!!!!0")
        self.assert_deep("(" + eight + "&1)")
        self.assert_deep("(1|" + eight + ")")
        self.assert_deep("!" + eight)
        self.assert_read([both(nots(6, ON), nots(6, ON))], "(!!!!!!1&!!!!!!1)")

    def test_full_words(self):
        word = ON
        for step in range(5):
            word = both(word, word)
        self.assertEqual(depth_of(word), 6)
        self.assert_read([no(no(word))], "!!" + shown([word]))
        self.assert_deep("!!!" + shown([word]))

    def test_long_texts(self):
        for text in ("!" * 299 + "1", "!" * 298 + "r9", "(" * 74 + "1" + "&1)" * 74, "(1|" * 74 + "1" + ")" * 74,
                     "!(" * 59 + "1" + "&1)" * 59, "1;" * 145 + "!" * 8 + "1"):
            with self.subTest(text=text):
                self.assertLessEqual(len(text), 300)
                self.assert_deep(text)

    def test_a_fault_elsewhere_goes_ahead(self):
        for deep in ("!" * 8 + "1", "!" * 200 + "b0", "(" * 9 + "1" + "&0)" * 9):
            for fault in (";", "x;", ";x", ";;1", ";r", ";(1&1", ";1)", "1", " ", "!", ")", "&1", ";1;"):
                with self.subTest(deep=deep, fault=fault):
                    self.assert_no_note(deep + fault)
            for fault in (";", "x;", "1;;", "r;", "(1&1;", "1);", "1", " ", "(", ")", "1&", ";1;", "b"):
                with self.subTest(deep=deep, fault=fault):
                    self.assert_no_note(fault + deep)
            self.assert_no_note("(" + deep + "&x)")
            self.assert_no_note("(x|" + deep + ")")
            self.assert_no_note("(" + deep + ")")

    def test_several_deep_words(self):
        self.assert_deep("!" * 8 + "1;" + "!" * 9 + "0")


if __name__ == "__main__":
    unittest.main()

"""`looked`: what a board is, and the refusals in their order ([2], [3], and [1] as far as it speaks of it)."""

import copy
import unittest

from relayroom.errors import Deep, NoContact, RoomError, TooMany
from relayroom.words import looked

ON = ("on",)
OFF = ("off",)
ONE_SIDED = ("not", "left", "right")


def deepened(word, depth, side):
    """The word with signs put round it, to be of the depth; side says where it hangs in them."""
    for step in range(depth - depth_of(word)):
        if side == "not":
            word = ("not", word)
        elif side == "left":
            word = (("and", "or")[step % 2], word, ON)
        else:
            word = (("or", "and")[step % 2], OFF, word)
    return word


def depth_of(word):
    return 1 + max([depth_of(part) for part in word[1:] if isinstance(part, tuple)], default=0)


def full(depth, word):
    """A word that has two parts everywhere, down to the depth."""
    for step in range(depth - 1):
        word = (("and", "or")[step % 2], word, word)
    return word


class LookedCase(unittest.TestCase):
    def assert_refused(self, refusal, board, buttons):
        before = copy.deepcopy(board)
        with self.assertRaises(refusal) as caught:
            looked(board, buttons)
        self.assertIs(type(caught.exception), refusal)
        self.assertIsInstance(caught.exception, RoomError)
        self.assertIsInstance(caught.exception, ValueError)
        self.assertEqual(board, before)

    def assert_let_through(self, board, buttons):
        before = copy.deepcopy(board)
        told = looked(board, buttons)
        self.assertIs(type(told), int)
        self.assertEqual(told, len(before))
        self.assertEqual(board, before)


class LetThrough(LookedCase):
    def test_one_to_six_relays_with_no_to_four_buttons(self):
        for relays in range(1, 7):
            for buttons in range(5):
                with self.subTest(relays=relays, buttons=buttons):
                    self.assert_let_through([ON] * relays, buttons)

    def test_each_kind_of_word(self):
        board = [ON, OFF, ("relay", 5), ("button", 3), ("not", ("relay", 0)),
                 ("or", ("and", ("relay", 4), ("button", 0)), ("not", OFF))]
        self.assert_let_through(board, 4)

    def test_every_contact_that_is_there(self):
        for relays in range(1, 7):
            for buttons in range(5):
                for word in [("relay", k) for k in range(relays)] + [("button", k) for k in range(buttons)]:
                    with self.subTest(relays=relays, buttons=buttons, word=word):
                        self.assert_let_through([word] * relays, buttons)
                        self.assert_let_through([ON] * (relays - 1) + [("not", word)], buttons)

    def test_every_depth_up_to_eight(self):
        for depth in range(1, 9):
            for side in ONE_SIDED:
                for place in range(3):
                    with self.subTest(depth=depth, side=side, place=place):
                        board = [OFF, OFF, OFF]
                        board[place] = deepened(("relay", 2), depth, side)
                        self.assert_let_through(board, 0)

    def test_full_words_of_depth_eight(self):
        self.assert_let_through([full(8, ("button", 3))] * 6, 4)

    def test_arguments_by_name(self):
        self.assertEqual(looked(board=[ON, OFF], buttons=0), 2)

    def test_nothing_is_kept(self):
        board = [ON]
        self.assertEqual(looked(board, 0), 1)
        board.append(("relay", 1))
        self.assertEqual(looked(board, 0), 2)
        board[0] = ("relay", 2)
        self.assert_refused(NoContact, board, 0)
        board[0] = OFF
        self.assertEqual(looked(board, 0), 2)


class RefusedWithTooMany(LookedCase):
    def test_no_relay(self):
        for buttons in range(5):
            with self.subTest(buttons=buttons):
                self.assert_refused(TooMany, [], buttons)

    def test_more_than_six_relays(self):
        for relays in (7, 8, 12, 100):
            for buttons in (0, 2, 4):
                with self.subTest(relays=relays, buttons=buttons):
                    self.assert_refused(TooMany, [ON] * relays, buttons)

    def test_buttons_not_from_0_to_4(self):
        for buttons in (-1000, -2, -1, 5, 6, 1000):
            for relays in (1, 6):
                with self.subTest(buttons=buttons, relays=relays):
                    self.assert_refused(TooMany, [ON] * relays, buttons)

    def test_both_beyond(self):
        self.assert_refused(TooMany, [], -1)
        self.assert_refused(TooMany, [], 5)
        self.assert_refused(TooMany, [ON] * 7, 5)


class RefusedWithDeep(LookedCase):
    def test_depths_above_eight_anywhere_on_the_board(self):
        for depth in (9, 10, 13, 20):
            for side in ONE_SIDED:
                for place in range(6):
                    with self.subTest(depth=depth, side=side, place=place):
                        board = [ON] * 6
                        board[place] = deepened(("relay", 0), depth, side)
                        self.assert_refused(Deep, board, 0)

    def test_the_deepest_part_counts(self):
        shallow = ("not", ON)
        deep = deepened(OFF, 8, "not")
        self.assert_refused(Deep, [("and", shallow, deep)], 0)
        self.assert_refused(Deep, [("and", deep, shallow)], 0)
        self.assert_refused(Deep, [("or", shallow, deep)], 0)
        self.assert_refused(Deep, [("or", deep, shallow)], 0)

    def test_every_ground_counts_as_one(self):
        for ground in (ON, OFF, ("relay", 0), ("button", 0)):
            with self.subTest(ground=ground):
                self.assert_let_through([deepened(ground, 8, "not")], 1)
                self.assert_refused(Deep, [deepened(ground, 9, "not")], 1)

    def test_full_words(self):
        for depth in (9, 13, 20):
            with self.subTest(depth=depth):
                self.assert_refused(Deep, [ON, full(depth, ("relay", 1))], 0)


class RefusedWithNoContact(LookedCase):
    def missing(self, relays, buttons):
        return ([("relay", k) for k in (-1000, -7, -2, -1, relays, relays + 1, 9, 1000)]
                + [("button", k) for k in (-1000, -5, -2, -1, buttons, buttons + 1, 9, 1000)])

    def test_at_the_top_of_a_word(self):
        for relays in range(1, 7):
            for buttons in range(5):
                for word in self.missing(relays, buttons):
                    for place in range(relays):
                        with self.subTest(relays=relays, buttons=buttons, word=word, place=place):
                            board = [ON] * relays
                            board[place] = word
                            self.assert_refused(NoContact, board, buttons)

    def test_deep_within_a_word(self):
        for word in self.missing(3, 2):
            for side in ONE_SIDED:
                for depth in (2, 5, 8):
                    for place in range(3):
                        with self.subTest(word=word, side=side, depth=depth, place=place):
                            board = [OFF] * 3
                            board[place] = deepened(word, depth, side)
                            self.assert_refused(NoContact, board, 2)

    def test_relays_and_buttons_are_counted_apart(self):
        self.assert_let_through([("relay", 4)] * 5, 1)
        self.assert_refused(NoContact, [("button", 4)] * 5, 1)
        self.assert_let_through([("button", 3)], 4)
        self.assert_refused(NoContact, [("relay", 3)], 4)

    def test_any_button_where_there_is_none(self):
        for k in range(6):
            with self.subTest(k=k):
                self.assert_refused(NoContact, [("button", k)] * 6, 0)

    def test_a_contact_that_does_not_matter_for_the_worth(self):
        self.assert_refused(NoContact, [("and", OFF, ("relay", 1))], 0)
        self.assert_refused(NoContact, [("or", ON, ("button", 0))], 0)


class TheRefusalThatGoesFirst(LookedCase):
    far = ("relay", 1000)
    deep = deepened(ON, 9, "left")
    deep_and_far = deepened(("button", -1), 13, "right")

    def test_too_many_ahead_of_deep(self):
        self.assert_refused(TooMany, [self.deep] + [ON] * 6, 0)
        self.assert_refused(TooMany, [ON] * 6 + [self.deep], 0)
        self.assert_refused(TooMany, [self.deep], -1)
        self.assert_refused(TooMany, [self.deep], 5)

    def test_too_many_ahead_of_no_contact(self):
        self.assert_refused(TooMany, [self.far] + [ON] * 6, 0)
        self.assert_refused(TooMany, [ON] * 6 + [self.far], 0)
        self.assert_refused(TooMany, [self.far], -1)
        self.assert_refused(TooMany, [("button", 5)], 5)

    def test_deep_ahead_of_no_contact_in_either_order(self):
        self.assert_refused(Deep, [self.deep, self.far], 0)
        self.assert_refused(Deep, [self.far, self.deep], 0)
        self.assert_refused(Deep, [self.far, ON, ("button", 0), OFF, ON, self.deep], 0)
        self.assert_refused(Deep, [ON, self.deep, OFF, self.far], 4)

    def test_deep_ahead_of_no_contact_in_one_word(self):
        self.assert_refused(Deep, [self.deep_and_far], 0)
        self.assert_refused(Deep, [("and", self.far, self.deep)], 0)
        self.assert_refused(Deep, [("or", self.deep, self.far)], 0)

    def test_all_three(self):
        self.assert_refused(TooMany, [self.far, self.deep] + [ON] * 5, 0)
        self.assert_refused(TooMany, [self.deep, self.far], 5)
        self.assert_refused(TooMany, [self.deep_and_far], -1)


if __name__ == "__main__":
    unittest.main()

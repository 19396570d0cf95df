"""`worth`: the worth of a word at a stand with pressed buttons ([4])."""

import copy
import itertools
import unittest

from relayroom.words import worth

ON = ("on",)
OFF = ("off",)


def rows(count):
    return list(itertools.product((False, True), repeat=count))


class WorthCase(unittest.TestCase):
    def assert_worth(self, expected, word, stand=(False,), pressed=()):
        self.assertIs(worth(word, stand, pressed), expected)


class EachKind(WorthCase):
    def test_on_and_off(self):
        for stand in rows(2):
            for pressed in rows(2):
                self.assert_worth(True, ON, stand, pressed)
                self.assert_worth(False, OFF, stand, pressed)

    def test_relay(self):
        for relays in range(1, 7):
            for stand in rows(relays):
                for k in range(relays):
                    self.assert_worth(stand[k], ("relay", k), stand)

    def test_button(self):
        for buttons in range(1, 5):
            for pressed in rows(buttons):
                for k in range(buttons):
                    self.assert_worth(pressed[k], ("button", k), (False,), pressed)

    def test_relays_and_buttons_are_not_taken_for_each_other(self):
        self.assert_worth(True, ("relay", 0), (True,), (False,))
        self.assert_worth(False, ("button", 0), (True,), (False,))
        self.assert_worth(False, ("relay", 0), (False,), (True,))
        self.assert_worth(True, ("button", 0), (False,), (True,))

    def test_not(self):
        self.assert_worth(False, ("not", ON))
        self.assert_worth(True, ("not", OFF))
        self.assert_worth(False, ("not", ("relay", 0)), (True,))
        self.assert_worth(True, ("not", ("relay", 0)), (False,))

    def test_and(self):
        self.assert_worth(True, ("and", ON, ON))
        self.assert_worth(False, ("and", ON, OFF))
        self.assert_worth(False, ("and", OFF, ON))
        self.assert_worth(False, ("and", OFF, OFF))

    def test_or(self):
        self.assert_worth(True, ("or", ON, ON))
        self.assert_worth(True, ("or", ON, OFF))
        self.assert_worth(True, ("or", OFF, ON))
        self.assert_worth(False, ("or", OFF, OFF))

    def test_arguments_by_name(self):
        self.assertIs(worth(word=("button", 1), stand=(False,), pressed=(False, True)), True)


class DeeperWords(WorthCase):
    def test_nots_up_to_depth_eight(self):
        word = ("relay", 0)
        for depth in range(2, 9):
            word = ("not", word)
            for stand in rows(1):
                with self.subTest(depth=depth, stand=stand):
                    self.assert_worth(stand[0] == (depth % 2 == 1), word, stand)

    def test_one_or_the_other_but_not_both(self):
        one, other = ("relay", 1), ("button", 0)
        word = ("and", ("or", one, other), ("not", ("and", one, other)))
        for stand in rows(2):
            for pressed in rows(1):
                self.assert_worth(stand[1] != pressed[0], word, stand, pressed)

    def test_all_and_any_of_six_relays(self):
        every, some = ("relay", 0), ("relay", 0)
        for k in range(1, 6):
            every, some = ("and", every, ("relay", k)), ("or", ("relay", k), some)
        for stand in rows(6):
            self.assert_worth(all(stand), every, stand)
            self.assert_worth(any(stand), some, stand)
            self.assert_worth(not all(stand), ("not", every), stand)

    def test_full_words_of_depth_eight(self):
        # Two halves that are alike at each sign: the ground's worth comes through unchanged.
        for sign in ("and", "or"):
            word = ("button", 3)
            for step in range(7):
                word = (sign, word, word)
            for pressed in rows(4):
                self.assert_worth(pressed[3], word, (True,), pressed)

    def test_a_latch(self):
        word = ("and", ("or", ("button", 0), ("relay", 0)), ("not", ("button", 1)))
        for stand in rows(1):
            for pressed in rows(2):
                self.assert_worth((pressed[0] or stand[0]) and not pressed[1], word, stand, pressed)


class AgainstATable(WorthCase):
    def test_all_words_of_two_signs(self):
        """Each word is made together with its table of worths, one for each of the four stands."""
        stands = rows(2)
        level = [(ON, (True,) * 4), (OFF, (False,) * 4)]
        level += [(("relay", k), tuple(stand[k] for stand in stands)) for k in range(2)]
        for step in range(2):
            known = list(level)
            level += [(("not", word), tuple(not a for a in table)) for word, table in known]
            for one, left in known:
                for other, right in known:
                    level.append((("and", one, other), tuple(a and b for a, b in zip(left, right))))
                    level.append((("or", one, other), tuple(a or b for a, b in zip(left, right))))
        for word, table in level:
            for stand, expected in zip(stands, table):
                self.assert_worth(expected, word, stand)


class NothingIsChangedNorKept(WorthCase):
    def test_what_is_handed_in_stays(self):
        word, stand, pressed = ("or", ("not", ("relay", 0)), ("button", 0)), (True,), (True,)
        before = copy.deepcopy((word, stand, pressed))
        self.assert_worth(True, word, stand, pressed)
        self.assertEqual((word, stand, pressed), before)

    def test_asked_again_elsewhere(self):
        word = ("and", ("relay", 0), ("button", 0))
        self.assert_worth(True, word, (True,), (True,))
        self.assert_worth(False, word, (True,), (False,))
        self.assert_worth(False, word, (False,), (True,))
        self.assert_worth(True, word, (True,), (True,))


if __name__ == "__main__":
    unittest.main()

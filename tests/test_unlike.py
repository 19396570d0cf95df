"""`unlike`: whether two words are alike, and else the first place at which they differ ([5])."""

import unittest

from relayroom.words import unlike, worth

ON = ("on",)
OFF = ("off",)
R0, R1, R2 = ("relay", 0), ("relay", 1), ("relay", 2)
B0, B1 = ("button", 0), ("button", 1)


def row(number, count):
    """The stand, or the pressed, of a number."""
    return tuple(number // 2 ** k % 2 == 1 for k in range(count))


def at_number(wanted, count, name):
    """A word that is True at the stand, or pressed, of one number alone."""
    word = None
    for k in range(count):
        contact = (name, k)
        if wanted // 2 ** k % 2 == 0:
            contact = ("not", contact)
        word = contact if word is None else ("and", word, contact)
    return ON if word is None else word


def not_below(bound, count, name):
    """A word that is True where the number of the stand, or of the pressed, is at least the bound."""
    word = ON
    for k in range(count):
        word = ("and" if bound // 2 ** k % 2 == 1 else "or", (name, k), word)
    return word


class UnlikeCase(unittest.TestCase):
    def assert_alike(self, one, other, relays, buttons):
        self.assertIs(unlike(one, other, relays, buttons), None)
        self.assertIs(unlike(other, one, relays, buttons), None)

    def assert_place(self, stand_number, pressed_number, one, other, relays, buttons):
        expected = (row(stand_number, relays), row(pressed_number, buttons))
        for told in (unlike(one, other, relays, buttons), unlike(other, one, relays, buttons)):
            self.assertIs(type(told), tuple)
            self.assertEqual(told, expected)
            for part, length in zip(told, (relays, buttons), strict=True):
                self.assertIs(type(part), tuple)
                self.assertEqual(len(part), length)
                for value in part:
                    self.assertIs(type(value), bool)


class Alike(UnlikeCase):
    pairs = [
        (ON, ON), (OFF, OFF), (R0, R0), (B0, B0),
        (R0, ("not", ("not", R0))),
        (ON, ("not", OFF)), (OFF, ("not", ON)),
        (("and", R0, B0), ("not", ("or", ("not", R0), ("not", B0)))),
        (("or", R0, B0), ("not", ("and", ("not", R0), ("not", B0)))),
        (("and", R0, B1), ("and", B1, R0)), (("or", R1, B0), ("or", B0, R1)),
        (("and", R0, ("and", R1, B0)), ("and", ("and", R0, R1), B0)),
        (("or", R0, ("or", R1, B0)), ("or", ("or", R0, R1), B0)),
        (R1, ("and", R1, ON)), (R1, ("or", OFF, R1)), (OFF, ("and", B1, OFF)), (ON, ("or", ON, B1)),
        (R0, ("and", R0, R0)), (B0, ("or", B0, B0)),
        (R0, ("or", R0, ("and", R0, B0))), (R0, ("and", R0, ("or", R0, B0))),
        (("and", R0, ("or", R1, B0)), ("or", ("and", R0, R1), ("and", R0, B0))),
        (OFF, ("and", R1, ("not", R1))), (ON, ("or", ("not", B1), B1)),
    ]

    def test_written_otherwise(self):
        for one, other in self.pairs:
            for relays, buttons in ((2, 2), (3, 2), (6, 4)):
                with self.subTest(one=one, other=other, relays=relays, buttons=buttons):
                    self.assert_alike(one, other, relays, buttons)

    def test_without_buttons(self):
        self.assert_alike(R0, ("not", ("not", R0)), 1, 0)
        self.assert_alike(("or", R0, ("relay", 5)), ("or", ("relay", 5), R0), 6, 0)

    def test_full_words_of_depth_eight(self):
        one, other = ("relay", 5), ("button", 3)
        for step in range(7):
            one, other = ("and", one, one), ("or", other, other)
        self.assert_alike(one, ("relay", 5), 6, 4)
        self.assert_alike(other, ("button", 3), 6, 4)
        self.assert_place(0, 8, one[1], ("or", one[2], other[1]), 6, 4)


class Unlike(UnlikeCase):
    def test_everywhere(self):
        for relays in range(1, 7):
            for buttons in range(5):
                with self.subTest(relays=relays, buttons=buttons):
                    self.assert_place(0, 0, ON, OFF, relays, buttons)
                    self.assert_place(0, 0, R0, ("not", R0), relays, buttons)

    def test_one_contact(self):
        for k in range(6):
            self.assert_place(2 ** k, 0, ("relay", k), OFF, 6, 4)
            self.assert_place(0, 0, ("relay", k), ON, 6, 4)
        for k in range(4):
            self.assert_place(0, 2 ** k, ("button", k), OFF, 6, 4)
            self.assert_place(0, 0, ("button", k), ON, 6, 4)

    def test_the_pressed_goes_ahead_of_the_stand(self):
        # They differ at stand 3 with none pressed, and at stand 0 with button 0 pressed.
        one = ("or", ("and", ("and", R0, R1), ("not", B0)), ("and", ("not", ("or", R0, R1)), B0))
        self.assert_place(3, 0, one, OFF, 2, 1)
        # A relay and a button: the relay's place comes first, since no button need be pressed there.
        self.assert_place(1, 0, R0, B0, 1, 1)
        self.assert_place(32, 0, ("relay", 5), B0, 6, 4)

    def test_the_least_number_not_the_first_contact(self):
        self.assert_place(1, 0, ("or", R0, R1), OFF, 2, 0)
        self.assert_place(1, 0, R0, R1, 2, 0)
        self.assert_place(2, 0, R1, R2, 3, 0)
        self.assert_place(3, 0, ("and", R0, R1), OFF, 3, 0)
        # Stand 3 (relays 0 and 1) lies ahead of stand 4 (relay 2 alone).
        self.assert_place(3, 0, ("or", R2, ("and", R0, R1)), OFF, 3, 0)
        self.assert_place(0, 1, B0, B1, 1, 2)
        self.assert_place(0, 3, ("or", ("button", 2), ("and", B0, B1)), OFF, 1, 3)

    def test_arguments_by_name(self):
        self.assertEqual(unlike(one=R1, other=B0, relays=2, buttons=1), ((False, True), (False,)))


class EveryPlace(UnlikeCase):
    def test_one_place_alone(self):
        for relays, buttons in ((1, 0), (1, 4), (3, 2), (6, 0)):
            for pressed in range(2 ** buttons):
                for stand in range(2 ** relays):
                    with self.subTest(relays=relays, buttons=buttons, stand=stand, pressed=pressed):
                        one = ("and", at_number(stand, relays, "relay"), at_number(pressed, buttons, "button"))
                        self.assert_place(stand, pressed, one, OFF, relays, buttons)

    def test_one_place_alone_on_the_largest_board(self):
        for pressed in (0, 1, 7, 8, 15):
            for stand in (0, 1, 31, 32, 63):
                with self.subTest(stand=stand, pressed=pressed):
                    one = ("and", at_number(stand, 6, "relay"), at_number(pressed, 4, "button"))
                    self.assert_place(stand, pressed, one, OFF, 6, 4)

    def test_from_a_place_on(self):
        for relays, buttons in ((1, 4), (3, 2), (4, 3), (6, 0)):
            for pressed in range(2 ** buttons):
                for stand in range(2 ** relays):
                    with self.subTest(relays=relays, buttons=buttons, stand=stand, pressed=pressed):
                        one = ("and", not_below(stand, relays, "relay"), not_below(pressed, buttons, "button"))
                        self.assert_place(stand, pressed, one, OFF, relays, buttons)

    def test_against_all_places_in_order(self):
        grounds = [ON, OFF, R0, R1, B0, B1]
        words = grounds + [("not", ground) for ground in grounds]
        words += [(sign, one, other) for sign in ("and", "or") for one in grounds for other in words[:12]]
        places = [(stand, pressed) for pressed in range(4) for stand in range(4)]
        tables = [[worth(word, row(stand, 2), row(pressed, 2)) for stand, pressed in places] for word in words]
        for one, left in zip(words, tables):
            for other, right in zip(words, tables):
                apart = [place for place, a, b in zip(places, left, right) if a != b]
                if apart:
                    self.assert_place(apart[0][0], apart[0][1], one, other, 2, 2)
                else:
                    self.assert_alike(one, other, 2, 2)


if __name__ == "__main__":
    unittest.main()

"""The interface's relayroom/errors.py, and that a class is refused by its own name alone ([3])."""

import unittest

from relayroom import errors
from relayroom.errors import Deep, NoContact, NoNote, NoRelay, RoomError, Still, TooMany

REFUSALS = [TooMany, Deep, NoContact, NoRelay, Still, NoNote]


class ErrorClasses(unittest.TestCase):
    def test_room_error_stands_straight_under_value_error(self):
        self.assertEqual(RoomError.__bases__, (ValueError,))

    def test_each_refusal_stands_straight_under_room_error(self):
        for refusal in REFUSALS:
            with self.subTest(refusal=refusal.__name__):
                self.assertEqual(refusal.__bases__, (RoomError,))

    def test_names(self):
        names = ["TooMany", "Deep", "NoContact", "NoRelay", "Still", "NoNote"]
        for name, refusal in zip(names, REFUSALS, strict=True):
            with self.subTest(name=name):
                self.assertEqual(refusal.__name__, name)
                self.assertIs(getattr(errors, name), refusal)

    def test_no_refusal_is_one_of_the_others(self):
        for one in REFUSALS:
            for other in REFUSALS:
                with self.subTest(one=one.__name__, other=other.__name__):
                    self.assertEqual(issubclass(one, other), one is other)

    def test_a_refusal_can_be_taken_by_each_class_above_it(self):
        for refusal in REFUSALS:
            for above in (refusal, RoomError, ValueError):
                with self.subTest(refusal=refusal.__name__, above=above.__name__):
                    with self.assertRaises(above):
                        raise refusal("words")


if __name__ == "__main__":
    unittest.main()

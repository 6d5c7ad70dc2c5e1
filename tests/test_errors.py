"""Point 4 and the error classes of the interface."""

import unittest

from rinsework import errors
from rinsework.errors import (
    NoCloth, NoHouse, NoMove, NoName, NoPlan, NoRinses, NoRow, NoStart, NoText, NoTime,
    NothingDone, NoVats, RinseError, TooMany, Twice,
)

PLAIN = [NoRinses, NoStart, TooMany, NoCloth, NoName, NoPlan, NoVats, NoTime, NothingDone, NoRow, NoHouse]
WITH_VALUES = [Twice, NoMove, NoText]


class ErrorsTest(unittest.TestCase):
    def test_rinse_error_stands_under_value_error(self):
        self.assertEqual(RinseError.__bases__, (ValueError,))

    def test_each_class_stands_straight_under_rinse_error(self):
        for refusal in PLAIN + WITH_VALUES:
            self.assertEqual(refusal.__bases__, (RinseError,), refusal)

    def test_there_are_fourteen_and_no_more(self):
        found = [thing for thing in vars(errors).values() if isinstance(thing, type)]
        self.assertEqual(len(found), 15)
        self.assertEqual(set(found), set(PLAIN + WITH_VALUES + [RinseError]))

    def test_none_is_taken_for_another(self):
        everyone = PLAIN + WITH_VALUES
        for one in everyone:
            for other in everyone:
                self.assertEqual(issubclass(one, other), one is other)

    def test_plain_ones_are_made_of_nothing(self):
        for refusal in PLAIN:
            with self.assertRaises(RinseError) as caught:
                raise refusal()
            self.assertIs(type(caught.exception), refusal)

    def test_twice_bears_its_name(self):
        for name in ["a", "ab", "abcdefgh"]:
            self.assertEqual(Twice(name).name, name)

    def test_no_move_bears_its_number(self):
        for at in [0, 1, 11, 10 ** 30]:
            self.assertEqual(NoMove(at).at, at)

    def test_no_text_bears_its_part(self):
        for part in [0, 1, 2, 12]:
            self.assertEqual(NoText(part).part, part)

    def test_values_are_each_object_s_own(self):
        one, other = NoMove(1), NoMove(2)
        self.assertEqual((one.at, other.at), (1, 2))
        with self.assertRaises(Twice) as caught:
            raise Twice("ab")
        self.assertEqual(caught.exception.name, "ab")


if __name__ == "__main__":
    unittest.main()

"""The refusals, made by hand."""

import unittest

from farbetween import errors
from farbetween.shares import Share
from tests.helper import anything

WITH_VALUE = {
    "NoMachine": "part", "NoRoom": "room", "NoSign": "sign", "NoText": "at", "NoName": "name", "Taken": "name",
    "NotThere": "name", "TooFar": "by",
}
WITH_TEXT = ["NoShare", "NoHeap", "NoCosts", "NoFade", "NoDepth", "TooMany", "NoBook", "NoRow"]


def refusal(name):
    return getattr(errors, name)


class TheRefusals(unittest.TestCase):

    def test_there_are_sixteen(self):
        there = [name for name, thing in vars(errors).items() if isinstance(thing, type) and name != "FarError"]
        self.assertEqual(sorted(there), sorted(WITH_TEXT + list(WITH_VALUE)))
        self.assertEqual(len(there), 16)

    def test_far_error_is_a_value_error(self):
        self.assertEqual(errors.FarError.__bases__, (ValueError,))
        self.assertIsInstance(errors.FarError("why"), ValueError)

    def test_each_is_straight_under_far_error(self):
        for name in WITH_TEXT + list(WITH_VALUE):
            self.assertEqual(refusal(name).__bases__, (errors.FarError,), name)

    def test_each_is_none_of_the_others(self):
        for name in WITH_TEXT + list(WITH_VALUE):
            made = refusal(name)("why")
            self.assertIsInstance(made, errors.FarError)
            self.assertIsInstance(made, ValueError)
            alike = [other for other in WITH_TEXT + list(WITH_VALUE) if isinstance(made, refusal(other))]
            self.assertEqual(alike, [name])

    def test_the_value_is_the_very_thing(self):
        for name, value in WITH_VALUE.items():
            for thing in anything() + [0, -7, 10 ** 40, Share(1, 2), "many", ["a", "a"]]:
                self.assertIs(getattr(refusal(name)(thing), value), thing, name)

    def test_a_value_is_wanted_and_just_one(self):
        for name in WITH_VALUE:
            with self.assertRaises(TypeError):
                refusal(name)()
            with self.assertRaises(TypeError):
                refusal(name)("one", "two")

    def test_two_of_a_kind_have_their_own_values(self):
        one, other = errors.NoRoom(1), errors.NoRoom([2])
        self.assertEqual((one.room, other.room), (1, [2]))

    def test_others_are_made_of_a_text(self):
        for name in WITH_TEXT:
            self.assertEqual(str(refusal(name)("this is why")), "this is why")

    def test_each_can_be_raised_and_caught_as_any_refusal(self):
        for name in WITH_TEXT + list(WITH_VALUE):
            with self.assertRaises(errors.FarError) as caught:
                raise refusal(name)("why")
            self.assertIs(type(caught.exception), refusal(name))


if __name__ == "__main__":
    unittest.main()

"""Point 4 and the interface of stringrods/errors.py."""

import inspect
import unittest

from samples import ANYTHING, NO_RODS
from stringrods import errors
from stringrods.errors import RodError

WITH_GIVEN = [
    "InvalidNumber", "InvalidFraction", "InvalidPoint", "InvalidPlane", "InvalidRod", "InvalidScrew",
    "InvalidSurface", "InvalidCubic", "InvalidTable", "InvalidIndex", "InvalidName", "InvalidWish",
    "InvalidPhrase", "UnknownName", "NotAWorkshop", "NotOnIt",
]
WITH_INDEX = ["InvalidLot", "InvalidPoints", "InvalidRods", "InUse", "Broken"]
WITHOUT = [
    "Same", "Apart", "Meeting", "Far", "Parallel", "NotJustOne", "NotSix", "NotTold", "NotRigid", "Flat",
    "NothingToUndo",
]


class ErrorClasses(unittest.TestCase):
    def test_thirty_two_classes_and_the_base(self):
        found = [name for name, held in vars(errors).items() if inspect.isclass(held)]
        self.assertEqual(len(WITH_GIVEN + WITH_INDEX + WITHOUT), 32)
        self.assertEqual(sorted(found), sorted(WITH_GIVEN + WITH_INDEX + WITHOUT + ["RodError"]))

    def test_defined_in_their_file(self):
        for name in WITH_GIVEN + WITH_INDEX + WITHOUT + ["RodError"]:
            self.assertEqual(getattr(errors, name).__module__, "stringrods.errors")
            self.assertEqual(getattr(errors, name).__name__, name)

    def test_base_is_a_value_error(self):
        self.assertEqual(RodError.__bases__, (ValueError,))

    def test_each_stands_under_the_base_alone(self):
        for name in WITH_GIVEN + WITH_INDEX + WITHOUT:
            made = getattr(errors, name)
            self.assertEqual(made.__mro__[1:], RodError.__mro__, name)

    def test_none_catches_another_one(self):
        names = WITH_GIVEN + WITH_INDEX + WITHOUT
        for name in names:
            for other in names:
                under = issubclass(getattr(errors, name), getattr(errors, other))
                self.assertEqual(under, name == other)

    def test_given_by_position_and_by_name(self):
        for name in WITH_GIVEN:
            made = getattr(errors, name)
            for value in ANYTHING + NO_RODS:
                self.assertIs(made(value).given, value)
                self.assertIs(made(given=value).given, value)

    def test_index_by_position_and_by_name(self):
        for name in WITH_INDEX:
            made = getattr(errors, name)
            for value in [None, 0, 1, 8] + ANYTHING:
                self.assertIs(made(value).index, value)
                self.assertIs(made(index=value).index, value)

    def test_what_is_kept_is_not_changed(self):
        held = [1, [2, 3]]
        self.assertIs(errors.InvalidRod(held).given, held)
        self.assertIs(errors.InvalidLot(held).index, held)
        self.assertEqual(held, [1, [2, 3]])

    def test_those_without_attributes(self):
        for name in WITHOUT + ["RodError"]:
            error = getattr(errors, name)()
            self.assertEqual(vars(error), {})
            self.assertIsInstance(error, RodError)

    def test_only_the_listed_attribute(self):
        for name in WITH_GIVEN:
            self.assertEqual(vars(getattr(errors, name)(5)), {"given": 5})
        for name in WITH_INDEX:
            self.assertEqual(vars(getattr(errors, name)(5)), {"index": 5})

    def test_an_attribute_is_asked_for(self):
        for name in WITH_GIVEN + WITH_INDEX:
            with self.assertRaises(TypeError):
                getattr(errors, name)()

    def test_each_is_caught_by_its_bases(self):
        for name in WITH_GIVEN + WITH_INDEX:
            with self.assertRaises(RodError):
                raise getattr(errors, name)(5)
            with self.assertRaises(ValueError):
                raise getattr(errors, name)(5)
        for name in WITHOUT + ["RodError"]:
            with self.assertRaises(ValueError):
                raise getattr(errors, name)()


if __name__ == "__main__":
    unittest.main()

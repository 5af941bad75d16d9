"""[4] and [52]: the errors, their bases and their attributes; Held."""

import unittest

from turnways import errors
from turnways.runs import Run
from turnways.shops import Shop

WITH_ONE = {
    "BadWorks": "count",
    "BadName": "name",
    "BadValue": "value",
    "BadSize": "size",
    "BadLimit": "limit",
    "NoThing": "name",
    "NotHeld": "lock",
    "NoWork": "number",
    "CanNot": "number",
    "NoStep": "step",
    "NoMoment": "moment",
    "BadStretch": "stretch",
    "NotTruth": "value",
}


class Odd:
    """An object that is of no use."""

    __hash__ = None

    def __eq__(self, other):
        raise AssertionError

    def __repr__(self):
        raise AssertionError


class Bases(unittest.TestCase):
    def test_turn_error_is_a_direct_subclass_of_value_error(self):
        self.assertEqual(errors.TurnError.__bases__, (ValueError,))

    def test_each_error_is_a_direct_subclass_of_turn_error(self):
        for name in [*WITH_ONE, "Beyond"]:
            self.assertEqual(getattr(errors, name).__bases__, (errors.TurnError,), name)

    def test_held_is_a_direct_subclass_of_exception(self):
        self.assertEqual(errors.Held.__bases__, (Exception,))
        self.assertNotIsInstance(errors.Held(), errors.TurnError)
        self.assertNotIsInstance(errors.Held(), ValueError)

    def test_all_are_defined_in_the_file(self):
        for name in [*WITH_ONE, "Beyond", "Held", "TurnError"]:
            self.assertEqual(getattr(errors, name).__module__, "turnways.errors")

    def test_there_are_no_others(self):
        kinds = {name for name, kind in vars(errors).items() if isinstance(kind, type)}
        self.assertEqual(kinds, {*WITH_ONE, "Beyond", "Held", "TurnError"})


class Attributes(unittest.TestCase):
    def test_made_by_place_and_by_name_of_any_object(self):
        for name, attribute in WITH_ONE.items():
            kind = getattr(errors, name)
            for given in (0, True, None, "x", 1.5, [1], {}, (1, [2]), object(), kind, Odd()):
                self.assertIs(getattr(kind(given), attribute), given)
                self.assertIs(getattr(kind(**{attribute: given}), attribute), given)

    def test_they_take_just_one(self):
        for name in WITH_ONE:
            kind = getattr(errors, name)
            self.assertRaises(TypeError, kind)
            self.assertRaises(TypeError, kind, 1, 2)

    def test_without_parameters(self):
        self.assertIsInstance(errors.Beyond(), errors.TurnError)
        self.assertIsInstance(errors.Held(), Exception)

    def test_they_can_be_raised_and_caught_as_value_errors(self):
        for name in WITH_ONE:
            with self.assertRaises(ValueError):
                raise getattr(errors, name)(name)

    def test_an_error_of_the_package_holds_what_was_handed_in(self):
        name = ["no", "word"]
        with self.assertRaises(errors.BadName) as caught:
            Shop([len], locks=[name])
        self.assertIs(caught.exception.name, name)
        value = [1]
        with self.assertRaises(errors.BadValue) as caught:
            Run(Shop([lambda hand: value]))
        self.assertIs(caught.exception.value, value)


if __name__ == "__main__":
    unittest.main()

"""[2] to [4]: the errors of the interface."""

import unittest

from tests.helpers import anything, parameters
from waysback import errors

INTERFACE = {
    "BadBook": ["thing"], "BadBoxes": ["index"], "BadDeed": ["deed"], "BadEvents": ["index"],
    "BadForm": ["thing"], "BadHand": ["thing"], "BadIndex": ["thing"], "BadLines": ["index"],
    "BadMost": ["thing"], "BadMove": ["move"], "BadMoves": ["index"], "BadNumber": ["thing"],
    "BadOrder": ["thing"], "BadOther": ["thing"], "BadPair": ["thing"], "BadPoint": ["thing"],
    "BadQuestion": ["thing"], "BadRounds": ["index"], "BadRules": ["index"], "BadSaying": ["thing"],
    "BadSession": ["thing"], "BadSpelling": ["index"], "BadStep": ["step"], "BadSteps": ["index"],
    "BadTable": ["index"], "BadText": ["index"], "BadThird": ["thing"], "BadWay": ["thing"],
    "BadWord": ["thing"], "InUse": ["question"], "IsWatched": ["question"], "NoCount": ["thing"],
    "NotApart": ["index"], "NotNow": ["why"], "NotRound": ["end"], "NotStraight": ["pair"],
    "NotWatched": ["question"], "TooFar": ["most"], "WouldChange": ["question", "why"],
}


class ErrorsTest(unittest.TestCase):
    def test_all_errors_of_the_interface_are_there_and_no_other(self):
        told = {name for name, thing in vars(errors).items() if isinstance(thing, type)}
        self.assertEqual(told, set(INTERFACE) | {"WayError"})

    def test_way_error_is_right_beneath_value_error(self):
        self.assertEqual(errors.WayError.__bases__, (ValueError,))
        self.assertIsInstance(errors.WayError(), ValueError)

    def test_each_error_is_a_class_of_its_own_right_beneath_way_error(self):
        classes = [getattr(errors, name) for name in INTERFACE]
        self.assertEqual(len(set(classes)), len(INTERFACE))
        for error in classes:
            self.assertEqual(error.__bases__, (errors.WayError,))
            self.assertEqual(error.__module__, "waysback.errors")

    def test_parameters_by_place_and_by_name_keep_the_very_objects(self):
        for name, names in INTERFACE.items():
            error = getattr(errors, name)
            self.assertEqual(parameters(error), names)
            for thing in anything() + [[1, [2]], {"a": [1]}]:
                for made in (error(*[thing] * len(names)), error(**dict.fromkeys(names, thing))):
                    for attribute in names:
                        self.assertIs(getattr(made, attribute), thing)

    def test_both_parameters_of_would_change(self):
        error = errors.WouldChange(("end", "ann"), why=("a", "b"))
        self.assertEqual((error.question, error.why), (("end", "ann"), ("a", "b")))

    def test_an_error_can_be_raised_and_caught_as_value_error(self):
        for name, names in INTERFACE.items():
            with self.assertRaises(ValueError):
                raise getattr(errors, name)(*names)


if __name__ == "__main__":
    unittest.main()

"""The row errors.py of the interface."""

import inspect
import unittest

from noneorsome import errors

ATTRIBUTES = {
    "BadName": ["name"],
    "NameInUse": ["name"],
    "UnknownName": ["name"],
    "BadChange": ["name", "change"],
    "ChangedTwice": ["operand"],
    "NoOutcome": ["index"],
    "NoFreeOutcome": ["name"],
    "UnknownAction": ["action"],
    "NotPossible": ["state", "action"],
    "NoState": ["state"],
    "BadNumber": ["number"],
    "Short": ["name"],
    "BadAmount": ["name"],
    "NoRow": ["state"],
    "BadRow": ["row"],
    "OtherWorld": [],
    "NoPosition": ["position"],
    "BadCounterplay": ["fault"],
    "NoPlace": ["place"],
    "Idle": ["state"],
    "TwoActions": ["state", "one", "other"],
    "BadText": ["at"],
    "BadLine": ["index"],
    "BadEdit": ["index"],
    "NothingToUndo": [],
    "NothingToRedo": [],
}


class Errors(unittest.TestCase):
    def test_the_classes_are_exactly_those_listed(self):
        found = [name for name, value in vars(errors).items() if inspect.isclass(value)]
        self.assertEqual(sorted(found), sorted([*ATTRIBUTES, "PlanError"]))

    def test_the_base_is_a_value_error(self):
        self.assertEqual(errors.PlanError.__bases__, (ValueError,))

    def test_each_is_a_direct_subclass_with_its_attributes(self):
        for name, attributes in ATTRIBUTES.items():
            with self.subTest(name):
                kind = getattr(errors, name)
                self.assertEqual(kind.__bases__, (errors.PlanError,))
                self.assertEqual(kind.__module__, "noneorsome.errors")
                values = {attribute: object() for attribute in attributes}
                self.assertEqual(vars(kind(**values)), values)
                self.assertEqual(vars(kind(*values.values())), values)

    def test_each_can_be_raised_and_has_a_message(self):
        for name, attributes in ATTRIBUTES.items():
            with self.subTest(name):
                with self.assertRaises(errors.PlanError) as caught:
                    raise getattr(errors, name)(*["value" for _ in attributes])
                self.assertNotEqual(str(caught.exception), "")

    def test_arguments_are_due(self):
        for name, attributes in ATTRIBUTES.items():
            with self.subTest(name):
                with self.assertRaises(TypeError):
                    getattr(errors, name)(*[1 for _ in attributes], 1)


if __name__ == "__main__":
    unittest.main()

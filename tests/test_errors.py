"""Point 17."""

import unittest

from checks import Checks
from guestlives import errors

CASES = (
    (errors.TextError, {"line": 3, "column": 7}),
    (errors.InstructionError, {"name": "jumpx"}),
    (errors.GuestError, {"field": "pages"}),
    (errors.PolicyError, {"name": "lazy"}),
    (errors.ActionError, {"action": "g2"}),
    (errors.SettingError, {"name": "slots"}),
    (errors.DebuggerError, {"reason": "start"}),
)


class TestErrors(Checks):
    def test_arguments_are_attributes(self):
        for error, told in CASES:
            self.assertEqual(vars(error(*told.values())), told)
            self.assertEqual(vars(error(**told)), told)

    def test_base_classes(self):
        self.assertTrue(issubclass(errors.GuestlivesError, ValueError))
        for error, told in CASES:
            self.assertTrue(issubclass(error, errors.GuestlivesError))
            self.assertIsInstance(error(*told.values()), ValueError)

    def test_none_is_derived_from_another(self):
        for error, _ in CASES:
            for other, _ in CASES:
                self.assertEqual(issubclass(error, other), error is other)

    def test_they_can_be_raised_and_caught(self):
        for error, told in CASES:
            with self.assertRaises(errors.GuestlivesError):
                raise error(*told.values())


if __name__ == "__main__":
    unittest.main()

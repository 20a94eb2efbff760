"""Points 9 and 14."""

import unittest

from checks import Checks
from guestlives.errors import ActionError, SettingError
from guestlives.guest import Guest
from guestlives.trial import ACTIONS, Trial, check_action, check_processor, check_range, check_settings

WRONG_ACTIONS = ("", "g", "g2", "G0", "g0 ", " g0", "d0", "g0*2", "t", "none", "x0")


class TestActions(Checks):
    def test_actions(self):
        self.same_kind(ACTIONS, ("g0", "g1", "t0", "t1", "r0", "r1", "i0", "i1", "p0", "p1", "d"))

    def test_check(self):
        for action in ACTIONS:
            self.assertIsNone(check_action(action))
        for action in WRONG_ACTIONS:
            self.refuses(ActionError, {"action": action}, check_action, action)

    def test_settings(self):
        for slots in range(9):
            for longest in range(1, 9):
                self.assertIsNone(check_settings(slots, longest))
        for slots in (-1, 9, 100):
            for longest in (0, 1, 8, 9):
                self.refuses(SettingError, {"name": "slots"}, check_settings, slots, longest)
        for longest in (-1, 0, 9):
            for slots in (0, 8):
                self.refuses(SettingError, {"name": "longest"}, check_settings, slots, longest)

    def test_processor_and_range(self):
        self.assertIsNone(check_processor(0))
        self.assertIsNone(check_processor(1))
        for p in (-1, 2):
            self.refuses(SettingError, {"name": "processor"}, check_processor, p)
        self.assertIsNone(check_range("x", 3, 3, 3))
        for number in (2, 4):
            self.refuses(SettingError, {"name": "x"}, check_range, "x", number, 3, 3)


class TestTrial(Checks):
    def test_attributes_and_key(self):
        guest = Guest.blank()
        schedule = ["g0", "d", "p1"]
        trial = Trial(guest, 0, 8, schedule)
        schedule.append("g1")
        self.assertIs(trial.guest, guest)
        self.same_kind((trial.slots, trial.longest, trial.schedule), (0, 8, ("g0", "d", "p1")))
        self.same_kind(trial.key(), (guest.key(), 0, 8, ("g0", "d", "p1")))
        self.assertEqual(Trial(guest, 8, 1, ()).key(), (guest.key(), 8, 1, ()))
        self.assertEqual(Trial(guest=guest, slots=1, longest=2, schedule=("d",)).schedule, ("d",))

    def test_longest_schedule(self):
        self.assertEqual(len(Trial(Guest.blank(), 8, 8, ["d"] * 1000).schedule), 1000)
        self.refuses(SettingError, {"name": "schedule"}, Trial, Guest.blank(), 8, 8, ["d"] * 1001)

    def test_the_first_error(self):
        guest = Guest.blank()
        bad = ["d"] * 1001 + ["x", "y"]
        self.refuses(SettingError, {"name": "slots"}, Trial, guest, 9, 0, bad)
        self.refuses(SettingError, {"name": "slots"}, Trial, guest, -1, 1, [])
        self.refuses(SettingError, {"name": "longest"}, Trial, guest, 0, 0, bad)
        self.refuses(SettingError, {"name": "longest"}, Trial, guest, 0, 9, [])
        self.refuses(ActionError, {"action": "x"}, Trial, guest, 0, 1, bad)
        for action in WRONG_ACTIONS:
            self.refuses(ActionError, {"action": action}, Trial, guest, 0, 1, ["g0", action, "zz"])


if __name__ == "__main__":
    unittest.main()

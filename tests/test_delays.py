"""Point 112."""

import unittest

from checks import Checks, guest_of
from guestlives.delays import delays
from guestlives.errors import ActionError, SettingError
from guestlives.host import Host
from guestlives.policy import Policy


class TestDelays(Checks):
    def test_ordinary_schedules(self):
        for text, wanted in (
            ("", []), ("g0 r0 g0", []), ("r0 t0", [0]), ("g0 g0 r0 g0 g0 g0 t0 g0", [3]), ("r0 g0 t0 g0 r0 t0", [1, 0]),
            ("r0 g0 t0 g0 g0 r0 g0 g0 t0", [1, 2]),
        ):
            self.same_kind(delays(text.split(), 0), wanted)
            self.same_kind(delays(tuple(text.split()), 0), wanted)
            self.same_kind(delays(text.replace("0", "1").split(), 1), wanted)

    def test_the_first_of_several_raises_counts(self):
        self.same_kind(delays("r0 g0 r0 g0 g0 r0 t0".split(), 0), [3])
        self.same_kind(delays("r0 g0 r0 t0 g0 r0 r0 g0 t0".split(), 0), [1, 1])

    def test_takes_without_a_raise(self):
        self.same_kind(delays("g0 g0 t0".split(), 0), [0])
        self.same_kind(delays("t0 t0".split(), 0), [0, 0])
        self.same_kind(delays("r0 g0 t0 g0 g0 t0 r0 g0 t0".split(), 0), [1, 0, 1])

    def test_the_other_processor_and_other_actions_do_not_count(self):
        text = "r1 g1 r0 g1 i0 p0 d g0 p1 i1 t1 g1 d g0 t0 g1 t1"
        self.same_kind(delays(text.split(), 0), [2])
        self.same_kind(delays(text.split(), 1), [2, 0])

    def test_wrong_values(self):
        for p in (-1, 2, 0):
            for action in ("x", "", "g2", "t"):
                self.refuses(ActionError, {"action": action}, delays, ["g0", action, "zz"], p)
        for p in (-1, 2, 7):
            self.refuses(SettingError, {"name": "processor"}, delays, ["g0"], p)
            self.refuses(SettingError, {"name": "processor"}, delays, [], p)

    def test_nothing_is_changed(self):
        schedule = ["r0", "g0", "t0"]
        delays(schedule, 0)
        self.assertEqual(schedule, ["r0", "g0", "t0"])

    def test_a_matching_schedule(self):
        guest = guest_of(("enable", ()), ("print", (1,)), ("print", (2,)), ("jump", (1,)))
        host = Host(guest, Policy(["flush_exit", "poll_backward"]))
        host.run(["g0", "g0", "r0"] + ["g0"] * 9)
        # Behind the jump the processor looks for a block, and so it polls.
        self.assertEqual(host.matching[:6], ["g0", "g0", "r0", "g0", "g0", "t0"])
        self.same_kind(delays(host.matching, 0), [2])
        self.same_kind(delays(host.matching, 1), [])


if __name__ == "__main__":
    unittest.main()

"""Point 78."""

import unittest

from checks import Checks, guest_of
from guestlives.against import agrees, first_difference, run_trial
from guestlives.errors import ActionError
from guestlives.guest import build_guest
from guestlives.host import Host
from guestlives.policy import Policy
from guestlives.trial import Trial

NOTHING = Policy.empty()
RIGHT = Policy(["single", "eager", "check_entry"])
RACE = build_guest([(0, [("print", (1,)), ("print", (2,)), ("print", (3,)), ("halt", ())])], writes=((0, 3, 9),))


class TestRunTrial(Checks):
    def test_a_host_that_has_run(self):
        trial = Trial(RACE, 3, 2, ["g0", "p1", "d", "g0"])
        before = trial.key()
        host = run_trial(trial, NOTHING)
        self.assertIsInstance(host, Host)
        self.assertIs(host.policy, NOTHING)
        self.assertIs(host.machine.guest, RACE)
        self.assertEqual((len(host.store.slots), host.longest, host.schedule), (3, 2, ["g0", "p1", "d", "g0"]))
        self.assertEqual(host.events, [("print", 0, 1), ("device", 0, 3, 9), ("print", 0, 2)])
        self.assertEqual(trial.key(), before)

    def test_takes_are_refused(self):
        for call in (run_trial, first_difference):
            self.refuses(ActionError, {"action": "t1"}, call, Trial(RACE, 3, 2, ["g0", "t1", "t0"]), NOTHING)


class TestAgrees(Checks):
    def test_events(self):
        for policy, wanted in ((NOTHING, False), (RIGHT, True)):
            host = run_trial(Trial(RACE, 4, 4, ["g0", "d", "g0"]), policy)
            self.assertIs(agrees(host), wanted)
        self.assertIs(agrees(run_trial(Trial(RACE, 4, 4, ["g0", "g0", "d"]), NOTHING)), True)
        self.assertIs(agrees(Host(RACE, NOTHING)), True)

    def test_the_state_at_the_end(self):
        guest = guest_of(("set", (0, 5)), ("jump", (9,)), ("halt", ()))
        host = run_trial(Trial(guest, 4, 4, ["g0", "g0"]), NOTHING)
        self.assertEqual(host.events, [])
        self.assertIs(agrees(host), False)
        self.assertIs(agrees(run_trial(Trial(guest, 4, 4, ["g0", "g0"]), Policy(["flush_exit"]))), True)

    def test_the_view_counts(self):
        guest = guest_of(("set", (0, 5)), ("store", (40, 0)), ("print", (1,)))
        host = run_trial(Trial(guest, 4, 4, ["g0", "g0"]), NOTHING)
        self.assertNotEqual(host.machine.key(), host.view().key())
        self.assertIs(agrees(host), True)

    def test_the_matching_schedule_counts(self):
        guest = build_guest([(0, [("enable", ()), ("halt", ())]), (60, [("print", (1,))])])
        host = run_trial(Trial(guest, 4, 4, ["r0", "g0", "p0", "g0", "g0"]), NOTHING)
        self.assertEqual([event[0] for event in host.events], ["trap", "print"])
        self.assertIs(agrees(host), True)

    def test_nothing_changes(self):
        host = run_trial(Trial(RACE, 4, 4, ["g0", "d", "g0"]), NOTHING)
        before = (host.machine.key(), host.store.key(), list(host.events), list(host.matching))
        agrees(host)
        self.assertEqual((host.machine.key(), host.store.key(), host.events, host.matching), before)


class TestFirstDifference(Checks):
    def test_an_event_that_differs(self):
        for schedule, wanted in (
            (["g0", "d", "g0"], 2), (["d", "g0", "g0"], None), (["g0", "g0", "d"], None), ([], None),
            (["p0", "i0", "d", "g0", "g0"], 3), (["g0", "d", "g0", "g0"], 2),
        ):
            self.same_kind(first_difference(Trial(RACE, 4, 4, schedule), NOTHING), wanted)
            self.assertIsNone(first_difference(Trial(RACE, 4, 4, schedule), RIGHT))

    def test_lists_of_different_lengths(self):
        # The device turns the second print into an instruction without an event.
        guest = build_guest([(0, [("print", (1,)), ("print", (2,)), ("halt", ())])], writes=((0, 2, 16),))
        trial = Trial(guest, 4, 4, ["g0", "d", "g0"])
        self.assertEqual(run_trial(trial, NOTHING).events[2:], [("print", 0, 2)])
        self.assertEqual(first_difference(trial, NOTHING), 2)
        guest = build_guest([(0, [("print", (1,)), ("disable", ()), ("set", (0, 1)), ("halt", ())])],
                            writes=((0, 2, 0),))
        trial = Trial(guest, 4, 4, ["g0", "d", "g0"])
        self.assertEqual(run_trial(trial, NOTHING).events[2:], [])
        self.assertEqual(first_difference(trial, NOTHING), 2)

    def test_states_do_not_count(self):
        guest = guest_of(("set", (0, 5)), ("jump", (9,)), ("halt", ()))
        self.assertIsNone(first_difference(Trial(guest, 4, 4, ["g0", "g0"]), NOTHING))


if __name__ == "__main__":
    unittest.main()

"""Points 95 and 96."""

import unittest
from itertools import combinations, permutations, product

from checks import Checks, guest_of_texts
from guestlives.against import agrees, run_trial
from guestlives.errors import SettingError
from guestlives.policies import CODE_RULES, VALUE_RULES
from guestlives.policy import Policy
from guestlives.trial import Trial
from guestlives.valuescenario import leave_scenario, value_scenario
from guestlives.valuetable import REGISTER_MOVES
from guestlives.valuewitness import value_witness

FLAGS = (True, False)
FAULT_PAGES = ((0, 7), (1, 7), (2, 0), (3, 7))
SCENARIOS = (
    ("store", "seen"), ("make last", "read"), ("make", "inspect"), ("make", "fault"), ("make twice", "inspect"),
    ("make", "clobber", "read"), ("make", "leave", "read"),
)
LEFT = "set r0 5; print 1; show r0; halt"


def trial_of(programs, schedule, **named):
    return Trial(guest_of_texts(programs, **named), 8, 8, schedule.split())


class TestWitnesses(Checks):
    def witness(self, scenario, wanted, environments=tuple(product(FLAGS, FLAGS))):
        for other, device in environments:
            given = scenario.split(", ")
            trial = value_witness(given, other=other, device=device)
            self.assertIsInstance(trial, Trial)
            self.same_kind(trial.key(), wanted.key())
            self.assertEqual(given, scenario.split(", "))
            self.assertTrue(trial.guest.fits(other=other, device=device))

    def test_without_leaving(self):
        self.witness("store, seen", trial_of([(0, "set r0 2; store 7 r0; print 1; halt")], "g0 g0 g0"))
        self.witness("make last, read", trial_of([(0, "set r0 5; jump 8"), (8, "show r0; halt")], "g0 g0 g0"))
        self.witness("make, inspect", trial_of([(0, "set r0 5; print 1; halt")], "g0 i0"))
        self.witness("make, fault", trial_of([(0, "set r0 5; load r1 32; halt")], "g0 g0", pages=FAULT_PAGES))
        self.witness("make twice, inspect", trial_of([(0, "set r0 5; set r0 6; halt")], "g0 i0"))
        self.witness("make, clobber, read",
                     trial_of([(0, "set r3 1; move r2 r1; add r1 r3; show r2; halt")], "g0 g0 g0 g0"))

    def test_leaving(self):
        wanted = trial_of([(0, LEFT), (48, "set r0 2; store 4 r0; print 9; halt")], "g0 g1 g1 g0 g0", starts=(0, 48))
        self.witness("make, leave, read", wanted, ((True, True), (True, False)))
        self.witness("make, leave, read", trial_of([(0, LEFT)], "g0 d g0 g0", writes=((0, 4, 2),)), ((False, True),))
        wanted = trial_of([(0, "set r0 5; set r1 2; store 10 r1; print 1; show r0; halt")], "g0 g0 g0 g0 g0")
        self.witness("make, leave, read", wanted, ((False, False),))

    def test_both_environments_hold_by_default(self):
        scenario = ["make", "leave", "read"]
        self.assertEqual(value_witness(scenario).guest.starts, (0, 48))
        self.assertEqual(value_witness(scenario, other=False).guest.writes, ((0, 4, 2),))
        self.assertEqual(value_witness(scenario, device=False).guest.starts, (0, 48))
        with self.assertRaises(TypeError):
            value_witness(scenario, True)

    def test_every_other_list(self):
        moves = REGISTER_MOVES + ("store", "seen", "")
        for count in (1, 2, 3):
            for scenario in permutations(moves, count):
                if scenario not in SCENARIOS:
                    self.refuses(SettingError, {"name": "scenario"}, value_witness, list(scenario))
        for scenario in ([], ["make, inspect"], ["make", "leave", "read", "read"], ["make", "make"], ["bad"] * 9):
            self.refuses(SettingError, {"name": "scenario"}, value_witness, scenario, other=False, device=False)


class TestThatTheyShowIt(Checks):
    def test_whatever_other_rules_a_policy_has(self):
        others = [name for name in CODE_RULES if name not in ("single", "stop_store")] + ["poll_entry", "poll_backward"]
        rests = [others, [], others[::2], others[1::2], others[:7], others[7:]]
        names = VALUE_RULES + ("single", "stop_store")
        known, seen, number = {}, set(), 0
        for count in range(len(names) + 1):
            for rules in combinations(names, count):
                found = value_scenario(Policy(rules))
                if found is None:
                    continue
                number = number + 1
                policy = Policy(rules) | Policy(rests[number % len(rests)])
                self.shows(policy, value_witness(found[1]), known)
                seen.add(tuple(found[1]))
        self.assertEqual(seen, set(SCENARIOS[:-1]))

    def test_leaving(self):
        values = Policy(["flush_exit", "map_inspect", "keep_dropped", "flush_source", "map_fault", "prompt_store"])
        code = Policy(CODE_RULES) - Policy(["single", "stop_store", "hold_slot"])
        for other, device in product(FLAGS, FLAGS):
            for rest in (code, code - Policy(["check_entry"]), code - Policy(["no_links", "stop_page"])):
                policy = values | rest
                scenario = leave_scenario(policy, other=other, device=device)
                self.assertEqual(scenario, ["make", "leave", "read"])
                trial = value_witness(scenario, other=other, device=device)
                self.shows(policy, trial, {})
                self.assertTrue(agrees(run_trial(trial, policy | Policy(["map_leave"]))))

    def test_every_scenario_has_a_witness(self):
        names = VALUE_RULES + ("single", "stop_store")
        for count in range(len(names) + 1):
            for rules in combinations(names, count):
                for other, device in ((True, False), (False, True), (False, False)):
                    scenario = leave_scenario(Policy(rules), other=other, device=device)
                    if scenario is not None:
                        self.assertIsInstance(value_witness(scenario, other=other, device=device), Trial)


if __name__ == "__main__":
    unittest.main()

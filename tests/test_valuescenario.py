"""Points 93, 94 and 97."""

import unittest
from itertools import combinations, product

from checks import Checks
from guestlives.policies import CODE_RULES, VALUE_RULES
from guestlives.policy import Policy
from guestlives.valuescenario import can_leave, leave_scenario, value_scenario
from wording import MAPPED, leaving_is_safe, values_are_safe

FLAGS = (True, False)
FREE = (None, ["make", "leave", "read"])


def all_rules():
    names = VALUE_RULES + ("single", "stop_store")
    for count in range(len(names) + 1):
        yield from combinations(names, count)


class TestValueScenario(Checks):
    def test_scenarios(self):
        full = ("prompt_store", "flush_exit", "flush_source", "keep_dropped", "map_inspect", "map_fault")
        for without, wanted in (
            ((), None), (("prompt_store",), ("cell", ["store", "seen"])),
            (("flush_exit",), ("register", ["make last", "read"])), (("map_inspect",), ("register", ["make", "inspect"])),
            (("map_fault",), ("register", ["make", "fault"])),
            (("keep_dropped",), ("register", ["make twice", "inspect"])),
            (("flush_source",), ("register", ["make", "clobber", "read"])),
            (("map_inspect", "map_fault"), ("register", ["make", "inspect"])), (full, ("cell", ["store", "seen"])),
            (("flush_source", "prompt_store"), ("cell", ["store", "seen"])),
        ):
            names = [name for name in full if name not in without]
            self.same_kind(value_scenario(Policy(names)), wanted)

    def test_leaving_does_not_count(self):
        names = MAPPED | {"prompt_store", "map_fault"}
        self.assertIsNone(value_scenario(Policy(sorted(names))))
        self.assertIsNone(value_scenario(Policy(sorted(names | {"map_leave"}))))

    def test_by_the_condition_of_the_document(self):
        for names in all_rules():
            self.assertIs(value_scenario(Policy(names)) is None, values_are_safe(set(names)), names)

    def test_other_rules_do_not_count(self):
        others = [name for name in CODE_RULES if name not in ("single", "stop_store")] + ["poll_entry", "poll_backward"]
        for names in ((), ("eager",), ("flush_exit", "single"), ("prompt_store", "flush_exit")):
            self.assertEqual(value_scenario(Policy(names)), value_scenario(Policy(names) | Policy(others)))


class TestCanLeave(Checks):
    def test_all_cases(self):
        for names, wanted in (((), True), (("stop_store",), False), (("flush_fault",), False), (("eager",), True),
                              (("stop_store", "flush_fault"), False), (("single", "map_leave"), True)):
            for other, device in product(FLAGS, FLAGS):
                found = can_leave(Policy(names), other=other, device=device)
                self.assertIs(found, other or device or wanted)
            self.assertIs(can_leave(Policy(names)), True)
            self.assertIs(can_leave(Policy(names), other=False), True)
            self.assertIs(can_leave(Policy(names), device=False), True)
        with self.assertRaises(TypeError):
            can_leave(Policy(), True)


class TestLeaveScenario(Checks):
    def test_scenarios(self):
        full = ("flush_exit", "flush_source", "keep_dropped", "map_inspect", "map_fault")
        self.same_kind(leave_scenario(Policy(full)), ["make", "leave", "read"])
        self.same_kind(leave_scenario(Policy(full), other=False, device=False), ["make", "leave", "read"])
        for name in ("map_leave", "single", "eager"):
            self.assertIsNone(leave_scenario(Policy(full + (name,))))
        for name in ("stop_store", "flush_fault"):
            policy = Policy(full + (name,))
            for other, device in product(FLAGS, FLAGS):
                found = leave_scenario(policy, other=other, device=device)
                self.assertEqual(found, ["make", "leave", "read"] if other or device else None)
        self.same_kind(leave_scenario(Policy()), ["make last", "read"])
        self.same_kind(leave_scenario(Policy(["flush_exit"])), ["make", "inspect"])
        self.assertIsNone(leave_scenario(Policy(["stop_store"]), other=False, device=False))

    def test_by_the_condition_of_the_document(self):
        for names in all_rules():
            if not values_are_safe(set(names)):
                continue
            for other, device in product(FLAGS, FLAGS):
                found = leave_scenario(Policy(names), other=other, device=device)
                self.assertEqual(found, FREE[not leaving_is_safe(set(names), other, device)], names)

    def test_both_environments_hold_by_default(self):
        policy = Policy(sorted(MAPPED | {"map_fault", "stop_store"}))
        self.assertIsNone(leave_scenario(policy, other=False, device=False))
        for named in ({}, {"other": False}, {"device": False}):
            self.assertIsNotNone(leave_scenario(policy, **named))


if __name__ == "__main__":
    unittest.main()

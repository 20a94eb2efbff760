"""Points 97 and 98."""

import unittest
from itertools import combinations, product
from random import Random

from checks import Checks
from guestlives.conditions import code_condition, leave_condition, met_by, right_tree, value_condition
from guestlives.policies import CODE_RULES, POLL_RULES, VALUE_RULES
from guestlives.policy import RULES, Policy
from wording import code_is_safe, leaving_is_safe, right_by_words, values_are_safe

ENVIRONMENTS = tuple(product((True, False), repeat=2))
MAPPED = "flush_exit map_inspect keep_dropped flush_source"
INSIDE = "invalidate_store track_frames track_second leave_self"
INSIDE_OTHER = f"{INSIDE} invalidate_map invalidate_rights leave_other hold_slot"
INSIDE_ALL = f"{INSIDE_OTHER} invalidate_device"
ENTRIES = "invalidate_store track_frames track_second invalidate_map invalidate_rights key_level no_links"
ENTRIES_ALL = f"{ENTRIES} invalidate_device track_prepared"


def all_sets(names):
    for count in range(len(names) + 1):
        yield from combinations(names, count)


class TestValueCondition(Checks):
    def check_left_out(self, words, also=""):
        """The policy meets the condition, and it does not without any one of the words."""
        self.assertIs(value_condition(Policy(words.split() + also.split())), True)
        for word in words.split():
            names = [name for name in words.split() + also.split() if name != word]
            self.assertIs(value_condition(Policy(names)), False, (words, word))

    def test_each_rule_that_it_names(self):
        for store in ("prompt_store", "stop_store"):
            self.check_left_out(f"{store} eager")
            for fault in ("map_fault", "flush_fault"):
                self.check_left_out(f"{store} {MAPPED} {fault}")
            self.check_left_out("single flush_exit", also=store)
        self.check_left_out("single eager")
        self.check_left_out("single flush_exit")
        self.check_left_out(MAPPED, also="prompt_store map_fault flush_fault")

    def test_single_is_enough_for_stores_and_with_flush_exit_for_registers(self):
        self.assertIs(value_condition(Policy(["single"])), False)
        self.assertIs(value_condition(Policy(["single", "prompt_store", "stop_store", "map_fault"])), False)
        self.assertIs(value_condition(Policy(["prompt_store", "flush_exit"])), False)
        self.assertIs(value_condition(Policy(["eager", "flush_exit"])), False)
        self.assertIs(value_condition(Policy.empty()), False)
        self.assertIs(value_condition(Policy.full()), True)

    def test_all_sets_of_rules(self):
        for names in all_sets(VALUE_RULES + ("single", "stop_store")):
            self.assertIs(value_condition(Policy(names)), values_are_safe(set(names)), names)

    def test_no_other_rule_counts(self):
        others = [name for name in CODE_RULES + POLL_RULES if name not in ("single", "stop_store")]
        self.assertIs(value_condition(Policy(others)), False)
        self.assertIs(value_condition(Policy(others + ["prompt_store"])), False)
        self.assertIs(value_condition(Policy(others + ["eager"])), False)


class TestLeaveCondition(Checks):
    def test_all_sets_of_rules_in_all_environments(self):
        for names in all_sets(("eager", "single", "map_leave", "stop_store", "flush_fault")):
            for other, device in ENVIRONMENTS:
                found = leave_condition(Policy(names), other=other, device=device)
                self.assertIs(found, leaving_is_safe(set(names), other, device), (names, other, device))

    def test_each_rule_alone(self):
        for name, wanted in (("eager", 4), ("single", 4), ("map_leave", 4), ("stop_store", 1), ("flush_fault", 1),
                             ("flush_exit", 0), ("prompt_store", 0), ("leave_self", 0)):
            found = [leave_condition(Policy([name]), other=other, device=device) for other, device in ENVIRONMENTS]
            self.same_kind(found, [True] * 4 if wanted == 4 else [False] * 3 + [wanted == 1])

    def test_defaults(self):
        policy = Policy(["stop_store"])
        for named in ({}, {"other": False}, {"device": False}):
            self.assertIs(leave_condition(policy, **named), False)
        self.assertIs(leave_condition(policy, other=False, device=False), True)
        with self.assertRaises(TypeError):
            leave_condition(policy, False, False)


class TestCodeCondition(Checks):
    def check_left_out(self, words, wanted, also=""):
        """The code condition of the words, and of these words without each one of them, in each environment.

        The wanted string has for each environment a + if the policy meets the condition; for the words that it
        needs there it does not without them.
        """
        names = words.split() + also.split()
        for sign, (other, device) in zip(wanted, ENVIRONMENTS):
            environment = {"other": other, "device": device}
            self.assertIs(code_condition(Policy(names), **environment), sign == "+", (names, environment))
            for word in words.split():
                left = [name for name in names if name != word]
                found = code_condition(Policy(left), **environment)
                self.assertIs(found, code_is_safe(set(left), other, device), (left, environment))
                if sign == "-":
                    self.assertIs(found, False)

    def test_inside_blocks(self):
        self.check_left_out("stop_store", "---+", also="check_entry")
        self.check_left_out(INSIDE, "---+", also="check_entry")
        self.check_left_out(INSIDE_OTHER, "-+-+", also="check_entry")
        self.check_left_out(INSIDE_ALL, "++++", also="check_entry")
        self.check_left_out("stop_store invalidate_device track_frames stop_page leave_other", "--++", "check_entry")
        self.check_left_out("single", "++++", also="check_entry")

    def test_at_entries(self):
        self.check_left_out(ENTRIES, "---+", also="single")
        self.check_left_out(f"{ENTRIES} invalidate_device", "---+", also="single")
        self.check_left_out(f"{ENTRIES} track_prepared", "-+-+", also="single")
        self.check_left_out(ENTRIES_ALL, "++++", also="single")
        self.check_left_out(ENTRIES_ALL.replace("no_links", "cut_links clear_links"), "++++", also="single")
        self.check_left_out(ENTRIES_ALL.replace("track_second", "stop_page"), "++++", also="single")
        self.check_left_out("check_entry", "++++", also="single")

    def test_a_rule_that_is_needed_in_one_environment_alone(self):
        for without, wanted in (("hold_slot", "--++"), ("invalidate_map", "--++"), ("invalidate_rights", "--++"),
                                ("invalidate_device", "-+-+"), ("leave_other", "---+"), ("leave_self", "----"),
                                ("invalidate_store", "----"), ("track_frames", "----"), ("track_second", "----")):
            names = [name for name in INSIDE_ALL.split() if name != without] + ["check_entry"]
            found = [code_condition(Policy(names), other=other, device=device) for other, device in ENVIRONMENTS]
            self.same_kind(found, [sign == "+" for sign in wanted])

    def test_the_device_alone_does_not_ask_for_watched_stores(self):
        names = "stop_store invalidate_device track_frames track_second leave_other check_entry".split()
        self.assertIs(code_condition(Policy(names), other=False), True)
        self.assertIs(code_condition(Policy(names)), False)

    def test_value_rules_and_interrupt_rules_do_not_count(self):
        self.assertIs(code_condition(Policy(VALUE_RULES + POLL_RULES)), False)
        self.assertIs(code_condition(Policy(VALUE_RULES + POLL_RULES), other=False, device=False), False)
        self.assertIs(code_condition(Policy.full()), True)
        self.assertIs(code_condition(Policy(CODE_RULES)), True)

    def test_many_sets_of_rules(self):
        random = Random(6)
        rows = [[name for name in CODE_RULES if name not in left] for left in all_sets(CODE_RULES) if len(left) < 4]
        for _ in range(600):
            rows.append([name for name in CODE_RULES if random.randrange(10) < 8 and name != "check_entry"])
        for names in rows:
            for other, device in ENVIRONMENTS:
                found = code_condition(Policy(names), other=other, device=device)
                self.assertIs(found, code_is_safe(set(names), other, device), (names, other, device))

    def test_defaults(self):
        names = INSIDE.split() + ["check_entry"]
        for named in ({}, {"other": False}, {"device": False}):
            self.assertIs(code_condition(Policy(names), **named), False)
        self.assertIs(code_condition(Policy(names), other=False, device=False), True)
        with self.assertRaises(TypeError):
            code_condition(Policy(names), False, False)


class TestManyPoliciesAtOnce(Checks):
    def test_one_bit_for_each_policy(self):
        owners = {"eager": 0b1010, "single": 0b1100}
        for tree, wanted in (("eager", 0b1010), ("no_links", 0), (("all", ("eager", "single")), 0b1000),
                             (("any", ("eager", "single")), 0b1110), (("all", ("eager", "no_links")), 0),
                             (("all", ("no_links", "eager")), 0), (("any", ("no_links", "eager")), 0b1010),
                             (("all", (("any", ("eager", "single")), "single")), 0b1100),
                             (("any", ("single",)), 0b1100)):
            self.same_kind(met_by(tree, owners), wanted)
        self.same_kind(met_by(("any", ("eager", "single")), {}), 0)

    def test_many_sets_of_rules(self):
        random = Random(7)
        rows = [RULES, ()]
        for _ in range(200):
            share = random.choice((5, 8, 9))
            rows.append([name for name in RULES if random.randrange(10) < share])
        owners = {name: sum([1 << k for k, names in enumerate(rows) if name in names]) for name in RULES}
        for other, device in ENVIRONMENTS:
            found = met_by(right_tree(other, device), owners)
            wanted = [right_by_words(names, other, device) for names in rows]
            self.assertEqual([(found >> k) & 1 == 1 for k in range(len(rows))], wanted)
            self.assertEqual(found >> len(rows), 0)


if __name__ == "__main__":
    unittest.main()

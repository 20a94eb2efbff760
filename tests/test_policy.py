"""Points 15 and 16."""

import unittest

from checks import Checks
from guestlives.errors import PolicyError
from guestlives.policy import RULES, Policy

NAMES = (
    "invalidate_store invalidate_device track_frames track_prepared track_second invalidate_map "
    "invalidate_rights key_level leave_self leave_other cut_links clear_links hold_slot check_entry "
    "stop_page stop_store no_links single "
    "eager flush_exit flush_source keep_dropped map_inspect map_fault flush_fault map_leave prompt_store "
    "poll_entry poll_backward"
)


class TestPolicy(Checks):
    def test_rules(self):
        self.same_kind(RULES, tuple(NAMES.split()))
        self.assertEqual(len(RULES), 29)

    def test_names_stand_in_order(self):
        self.same_kind(Policy(["poll_backward", "single", "invalidate_store"]).names,
                       ("invalidate_store", "single", "poll_backward"))
        self.same_kind(Policy(RULES[::-1]).names, RULES)
        self.same_kind(Policy().names, ())

    def test_list_tuple_or_policy(self):
        first = Policy(["eager", "single"])
        for names in (["eager", "single"], ("single", "eager"), first):
            self.assertEqual(Policy(names).names, ("single", "eager"))
        self.assertEqual(Policy(names=["eager"]).names, ("eager",))

    def test_the_list_is_copied(self):
        names = ["eager", "single"]
        policy = Policy(names)
        names.append("no_links")
        self.assertEqual(policy.names, ("single", "eager"))
        self.assertEqual(names, ["eager", "single", "no_links"])

    def test_wrong_names(self):
        for names, wrong in (
            (["lazy"], "lazy"), ([""], ""), (["eager", "eager"], "eager"), (["Eager"], "Eager"),
            (["eager", "nothing", "eager"], "nothing"), (["eager", "single", "eager", "nothing"], "eager"),
            (("none",), "none"), (list(RULES) + ["single"], "single"),
        ):
            self.refuses(PolicyError, {"name": wrong}, Policy, names)

    def test_has_and_in(self):
        policy = Policy(["eager", "single"])
        for name in RULES:
            self.assertIs(policy.has(name), name in ("eager", "single"))
            self.assertIs(name in policy, name in ("eager", "single"))
        for name in ("", "lazy", "eager "):
            self.assertIs(policy.has(name), False)
            self.assertIs(name in policy, False)

    def test_iterating(self):
        policy = Policy(["eager", "single", "check_entry"])
        self.assertEqual(list(policy), ["check_entry", "single", "eager"])
        self.assertEqual([name for name in policy], list(policy.names))
        self.assertEqual(list(Policy()), [])

    def test_union_and_difference(self):
        first = Policy(["eager", "single"])
        second = Policy(["poll_entry", "single", "invalidate_map"])
        both = first | second
        less = first - second
        self.assertIsInstance(both, Policy)
        self.assertIsInstance(less, Policy)
        self.same_kind(both.names, ("invalidate_map", "single", "eager", "poll_entry"))
        self.same_kind((second | first).names, both.names)
        self.same_kind(less.names, ("eager",))
        self.same_kind((second - first).names, ("invalidate_map", "poll_entry"))
        self.same_kind((first - first).names, ())
        self.assertEqual(first.names, ("single", "eager"))
        self.assertEqual(second.names, ("invalidate_map", "single", "poll_entry"))

    def test_union_is_a_new_policy(self):
        first = Policy(["eager"])
        self.assertIsNot(first | first, first)
        self.assertIsNot(first - Policy(), first)

    def test_empty_and_full(self):
        self.assertEqual(Policy.empty().names, ())
        self.assertEqual(Policy.full().names, RULES)
        self.assertEqual((Policy.full() - Policy.empty()).names, RULES)

    def test_no_own_equality(self):
        self.assertNotIn("__eq__", vars(Policy))
        self.assertFalse(Policy() == Policy())
        for name in ("has", "__contains__", "__iter__", "__or__", "__sub__", "empty", "full"):
            self.assertIn(name, vars(Policy))


if __name__ == "__main__":
    unittest.main()

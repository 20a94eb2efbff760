"""Points 102 and 103."""

import sys
import unittest
from itertools import combinations, product
from random import Random

from checks import Checks
from guestlives.least import least_policies, redundant, repairs, shrink
from guestlives.policy import RULES, Policy
from guestlives.verdict import is_right
from runs import ALL, ALONE
from wording import right_by_words

ENVIRONMENTS = tuple(product((True, False), repeat=2))
SINGLE = ("check_entry", "single", "eager")


def set_order(rows):
    return sorted(rows, key=lambda names: (len(names), names))


def any_policy(random):
    share = random.choice((3, 5, 7, 9))
    return Policy([name for name in RULES if random.randrange(10) < share])


def shrunk_by_words(names, other, device):
    """The rows of names that point 103 asks of shrink, in its words."""
    rows = [tuple(names)] if right_by_words(names, other, device) else []
    while len(rows) > 0:
        lefts = [tuple([rule for rule in rows[-1] if rule != name]) for name in rows[-1]]
        right = [left for left in lefts if right_by_words(left, other, device)]
        if len(right) == 0:
            break
        rows.append(right[0])
    return rows


def steps_of(call, module):
    """How often functions of a module are called while a call runs."""
    found = []

    def watch(frame, event, _):
        if event == "call" and frame.f_globals.get("__name__") == module:
            found.append(frame.f_code.co_name)

    before = sys.getprofile()
    sys.setprofile(watch)
    try:
        call()
    finally:
        sys.setprofile(before)
    return len(found)


class TestLeastPolicies(Checks):
    def test_each_is_right_and_wrong_without_any_rule(self):
        for other, device in ENVIRONMENTS:
            for policy in least_policies(other=other, device=device):
                self.assertIsInstance(policy, Policy)
                self.assertTrue(right_by_words(policy.names, other, device))
                for name in policy.names:
                    left = [rule for rule in policy.names if rule != name]
                    self.assertFalse(right_by_words(left, other, device), (policy.names, name))

    def test_set_order_and_each_once(self):
        for other, device in ENVIRONMENTS:
            rows = [policy.names for policy in least_policies(other=other, device=device)]
            self.assertEqual(rows, set_order(set(rows)))
            self.assertEqual(rows[:2], [SINGLE, ("check_entry", "single", "flush_exit")])

    def test_each_right_policy_has_all_rules_of_one(self):
        random = Random(11)
        for other, device in ENVIRONMENTS:
            least = [set(policy.names) for policy in least_policies(other=other, device=device)]
            for _ in range(400):
                names = any_policy(random).names
                wanted = any([rules <= set(names) for rules in least])
                self.assertIs(right_by_words(names, other, device), wanted, names)

    def test_all_small_sets(self):
        rules = [name for name in RULES if name not in ("poll_entry", "poll_backward")]
        wanted = [names for names in combinations(rules, 3) if right_by_words(names, False, False)]
        found = [policy.names for policy in least_policies(other=False, device=False)]
        self.assertEqual([names for names in found if len(names) <= 3], sorted(wanted))

    def test_how_many(self):
        found = [len(least_policies(other=other, device=device)) for other, device in ENVIRONMENTS]
        self.assertEqual(found, [46, 46, 46, 43])

    def test_defaults_and_new_lists(self):
        self.assertEqual([policy.names for policy in least_policies()],
                         [policy.names for policy in least_policies(other=True, device=True)])
        least_policies().clear()
        self.assertEqual(len(least_policies()), 46)
        with self.assertRaises(TypeError):
            least_policies(True, True)


class TestRepairs(Checks):
    def test_right_policies(self):
        for words in ALL:
            for other, device in ENVIRONMENTS:
                self.same_kind(repairs(Policy(words.split()), other=other, device=device), [()])
        self.same_kind(repairs(Policy.full()), [()])

    def test_one_rule_is_missing(self):
        self.assertEqual(repairs(Policy(["single", "check_entry"])), [("eager",), ("flush_exit",)])
        self.assertEqual(repairs(Policy(["check_entry", "eager"]))[0], ("single",))
        self.assertEqual(repairs(Policy(["check_entry", "eager"]), other=False, device=False)[:2],
                         [("single",), ("stop_store",)])

    def test_the_empty_policy(self):
        for other, device in ENVIRONMENTS:
            found = repairs(Policy.empty(), other=other, device=device)
            self.same_kind(found, [policy.names for policy in least_policies(other=other, device=device)])

    def test_each_set_is_least(self):
        random = Random(12)
        for _ in range(60):
            policy = any_policy(random)
            for other, device in ENVIRONMENTS:
                found = repairs(policy, other=other, device=device)
                self.assertGreater(len(found), 0)
                self.assertEqual(found, set_order(set(found)))
                for names in found:
                    self.assertEqual(names, Policy(names).names)
                    self.assertFalse(set(names) & set(policy.names))
                    self.assertTrue(right_by_words(policy.names + names, other, device))
                    for name in names:
                        left = policy.names + tuple([rule for rule in names if rule != name])
                        self.assertFalse(right_by_words(left, other, device))

    def test_all_sets_of_few_missing_rules(self):
        random = Random(13)
        for _ in range(12):
            missing = random.sample(RULES, 7)
            policy = Policy.full() - Policy(missing)
            names = [name for name in RULES if name in missing]
            right = [row for count in range(8) for row in combinations(names, count)
                     if right_by_words(policy.names + row, True, True)]
            wanted = [row for row in right if not any([set(other) < set(row) for other in right])]
            self.assertEqual(repairs(policy), set_order(wanted))

    def test_environments(self):
        policy = Policy(ALONE[1].split())
        self.same_kind(repairs(policy, other=False, device=False), [()])
        self.assertEqual(repairs(policy)[0], ("single",))
        self.assertIn(("invalidate_device", "track_frames", "leave_other", "stop_page"), repairs(policy, other=False))
        self.assertNotIn(("invalidate_device", "track_frames", "leave_other", "stop_page"), repairs(policy))
        with self.assertRaises(TypeError):
            repairs(policy, True)


class TestRedundant(Checks):
    def test_right_policies(self):
        self.same_kind(redundant(Policy(SINGLE)), ())
        self.same_kind(redundant(Policy(SINGLE + ("flush_exit",))), ("eager", "flush_exit"))
        self.same_kind(redundant(Policy(SINGLE + ("poll_backward", "no_links"))), ("no_links", "poll_backward"))
        # Each rule alone can be left out of the full policy.
        self.same_kind(redundant(Policy.full()), RULES)

    def test_wrong_policies(self):
        for names in ((), ("single",), ("check_entry", "eager", "stop_page")):
            self.same_kind(redundant(Policy(names)), ())

    def test_by_the_words_of_the_document(self):
        random = Random(14)
        for _ in range(150):
            policy = any_policy(random) | Policy(random.choice((SINGLE, ("check_entry",), ())))
            for other, device in ENVIRONMENTS:
                wanted = ()
                if right_by_words(policy.names, other, device):
                    wanted = tuple([name for name in policy.names if right_by_words(
                        [rule for rule in policy.names if rule != name], other, device)])
                self.same_kind(redundant(policy, other=other, device=device), wanted)

    def test_environments(self):
        names = tuple(ALONE[1].split()) + ("leave_other", "single")
        self.assertEqual(redundant(Policy(names)), ("leave_other", "stop_store"))
        self.assertEqual(redundant(Policy(names), other=False, device=False), ("leave_other", "stop_store", "single"))
        alone = Policy(ALONE[1].split() + ["no_links"])
        self.assertEqual(redundant(alone, other=False, device=False), ("no_links",))
        for named in ({}, {"other": False}, {"device": False}):
            self.assertEqual(redundant(alone, **named), ())
        with self.assertRaises(TypeError):
            redundant(Policy(names), True)


class TestShrink(Checks):
    def test_a_least_policy(self):
        policy = Policy(SINGLE)
        found = list(shrink(policy))
        self.assertEqual([left.names for left in found], [SINGLE])
        self.assertIsInstance(found[0], Policy)

    def test_the_full_policy(self):
        found = list(shrink(Policy.full()))
        self.assertEqual(found[0].names, RULES)
        for policy, left in zip(found, found[1:]):
            first = redundant(policy)[0]
            self.assertEqual(left.names, tuple([name for name in policy.names if name != first]))
        self.assertEqual(redundant(found[-1]), ())
        self.assertIn(found[-1].names, [policy.names for policy in least_policies()])

    def test_the_first_redundant_rule_goes_first(self):
        found = list(shrink(Policy(SINGLE + ("flush_exit", "no_links"))))
        self.assertEqual([set(SINGLE + ("flush_exit", "no_links")) - set(left.names) for left in found],
                         [set(), {"no_links"}, {"no_links", "eager"}])

    def test_wrong_policies(self):
        for names in ((), ("single", "eager"), RULES[:13]):
            self.assertEqual(list(shrink(Policy(names))), [])

    def test_environments(self):
        names = tuple(ALONE[1].split())
        self.assertEqual(list(shrink(Policy(names))), [])
        more = Policy(names + ("no_links", "poll_entry"))
        self.assertEqual([left.names for left in shrink(more, other=False, device=False)],
                         [more.names, Policy(names + ("poll_entry",)).names, Policy(names).names])
        for named in ({}, {"other": False}, {"device": False}):
            self.assertEqual(list(shrink(more, **named)), [])
        least = Policy(names + ("invalidate_device", "track_frames", "stop_page", "leave_other", "no_links"))
        self.assertEqual([left.names for left in shrink(least, other=False)],
                         [least.names, (least - Policy(["no_links"])).names])
        least = Policy(names + tuple("invalidate_store invalidate_map invalidate_rights track_frames stop_page "
                                     "leave_other hold_slot no_links".split()))
        self.assertEqual([left.names for left in shrink(least, device=False)],
                         [least.names, (least - Policy(["no_links"])).names])
        for other, device in ENVIRONMENTS:
            found = list(shrink(Policy.full(), other=other, device=device))
            self.assertEqual(redundant(found[-1], other=other, device=device), ())
            self.assertTrue(is_right(found[-1], other=other, device=device))

    def test_by_the_words_of_the_document(self):
        random = Random(16)
        for _ in range(150):
            policy = any_policy(random) | Policy(random.choice((SINGLE, ("check_entry",), ())))
            for other, device in ENVIRONMENTS:
                found = [left.names for left in shrink(policy, other=other, device=device)]
                self.assertEqual(found, shrunk_by_words(policy.names, other, device))

    def test_few_rules_left_out_and_repaired_policies(self):
        random = Random(17)
        policies = [Policy.full() - Policy(names) for names in combinations(RULES, 1)]
        policies.extend([Policy.full() - Policy(random.sample(RULES, 4)) for _ in range(40)])
        for _ in range(8):
            policy = any_policy(random)
            policies.extend([policy | Policy(names) for names in repairs(policy)[-3:]])
        for policy in policies:
            for other, device in ENVIRONMENTS:
                found = [left.names for left in shrink(policy, other=other, device=device)]
                self.assertEqual(found, shrunk_by_words(policy.names, other, device))

    def test_least_policies_of_each_environment(self):
        for other, device in ENVIRONMENTS:
            for policy in least_policies(other=other, device=device):
                found = [left.names for left in shrink(policy, other=other, device=device)]
                self.assertEqual(found, [policy.names])

    def test_each_one_is_a_policy_of_its_own(self):
        policy = Policy(SINGLE + ("flush_exit", "no_links", "poll_entry"))
        names = policy.names
        found = [policy]
        for left in shrink(policy):
            self.assertIs(type(left), Policy)
            self.assertFalse(any([left is other for other in found]))
            found.append(left)
        self.assertEqual(len(found), 5)
        self.assertEqual(policy.names, names)
        # What is done to a policy that was yielded changes no later one.
        later = shrink(policy)
        next(later).names = ()
        self.assertEqual([left.names for left in later], [left.names for left in found[2:]])

    def test_conditions_are_asked_seldom(self):
        # One evaluation of all conditions takes about 60 calls.
        module = "guestlives.conditions"
        for other, device in ENVIRONMENTS:
            asked = steps_of(lambda: is_right(Policy.full(), other=other, device=device), module)
            self.assertGreater(asked, 0)
            spare = steps_of(lambda: redundant(Policy.full(), other=other, device=device), module)
            self.assertLess(spare, 3 * asked)
            rows = steps_of(lambda: list(shrink(Policy.full(), other=other, device=device)), module)
            self.assertLess(rows, 12 * asked)

    def test_a_generator(self):
        found = shrink(Policy.full())
        self.assertIs(iter(found), found)
        self.assertEqual(next(found).names, RULES)
        with self.assertRaises(TypeError):
            shrink(Policy.full(), True)


if __name__ == "__main__":
    unittest.main()
